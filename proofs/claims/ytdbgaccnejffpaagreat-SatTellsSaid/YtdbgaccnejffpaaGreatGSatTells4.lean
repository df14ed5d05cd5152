/-
  The walks of the reference's number and square (stage 14). By an AI agent.
-/
import Derived.Test.YtdbgaccnejffpaaGreatGSatTells2
namespace Go.Proofs.YtdbgaccnejffpaaGreat.Paths
open Go.RowKit Go.Proofs.YtdbgaccnejffpaaGreat.Ints Go.Proofs.YtdbgaccnejffpaaGreat.Mem Go.Proofs.YtdbgaccnejffpaaGreat.Src
def numT (zs : List Int) (x : Int) : Int := if zs.findIdx (· == x) < zs.length then ((zs.findIdx (· == x) : Nat) : Int) else -1
theorem num_at {zs : List Int} {x : Int} {i : Nat} (hi : i < zs.length) (h : zs[i]?.getD 0 = x) (hb : ∀ m, m < i → zs[m]?.getD 0 ≠ x) : numT zs x = (i : Nat) := by
 have e : zs.findIdx (· == x) = i := by
  rw [List.findIdx_eq hi]
  refine ⟨?_, fun j hj => ?_⟩
  ·rw [List.getElem?_eq_getElem hi] at h
   exact beq_iff_eq.2 h
  ·have := hb j hj
   rw [List.getElem?_eq_getElem (by omega)] at this
   exact Bool.eq_false_iff.2 (fun e => this (beq_iff_eq.1 e))
 unfold numT
 rw [e, if_pos hi]
theorem num_none {zs : List Int} {x : Int} (hb : ∀ m, m < zs.length → zs[m]?.getD 0 ≠ x) : numT zs x = -1 := by
 unfold numT
 rw [if_neg]
 intro h
 have h2 := List.findIdx_getElem (p := (· == x)) (w := h)
 have := hb _ h
 rw [List.getElem?_eq_getElem h] at this
 exact this (beq_iff_eq.1 h2)
set_option maxHeartbeats 4000000 in
set_option maxRecDepth 100000 in
theorem refNumber (A : Option Addr) (k c : Nat) (zs : List Int) (x : Int) (w : World) (h : Rd .i64 w A k zs) (_hk : k ≤ c) (hn : k ≤ 1048576) :
  Calls Tryz.prog 124 #[.slice A k c, .int .i64 x] w fun e w' => e = .returned (.int .i64 (numT zs x)) ∧ w' = w := by
 have hl := h.len
 have HR := Lib.hid h
 clear h
 go_enter Tryz.func124, Tryz.ntmps124
 go_wp2_with fail
 go_loopw [8] (fun v wr => ∃ i : Nat, v = .int .i64 (i : Nat) ∧ i ≤ k ∧ Hid (∀ m, m < i → zs[m]?.getD 0 ≠ x) ∧ wr = w) (fun v _ => k - (intOf v).toNat)
 case atStart => exact ⟨0, rfl, Nat.zero_le _, Lib.hid (fun m hm => absurd hm (Nat.not_lt_zero _)), rfl⟩
 case round =>
  obtain ⟨i, rfl, hik, hb, rfl⟩ := hrel
  by_cases hlt : i < k
  ·obtain ⟨b, off, rfl, hc⟩ := HR.out.cell (by omega)
   have y := hc i hlt
   obtain ⟨z, hz⟩ : ∃ z, zs[i]?.getD 0 = z := ⟨_, rfl⟩
   rw [hz] at y
   have HZ := Lib.hid hz
   clear hc hz
   by_cases he : z = x
   ·have HN := Lib.hid (num_at (by omega) (HZ.out.trans he) hb.out)
    have he' : (z == x) = true := beq_iff_eq.2 he
    clear he
    go_wp2_with fail
    go_ret
    exact ⟨by rw [HN.out]; rfl, rfl⟩
   ·have he' : (z == x) = false := Bool.eq_false_iff.2 (fun e => he (beq_iff_eq.1 e))
    have HB := Lib.hid (show ∀ m, m < i + 1 → zs[m]?.getD 0 ≠ x from fun m hm => by
     rcases Nat.lt_or_ge m i with h1 | h1
     ·exact hb.out m h1
     ·rw [show m = i by omega, HZ.out]
      exact he)
    go_wp2_with fail
    go_roundw
    case rel => exact ⟨i + 1, by simp, by omega, HB, by first | rfl | trivial⟩
    case measure => (show k - (i + 1) < k - i; omega)
  ·have HN := Lib.hid (num_none (zs := zs) (x := x) (fun m hm => hb.out m (by omega)))
   go_wp2_with fail
   go_ret
   exact ⟨by rw [HN.out]; rfl, rfl⟩
def outT (n i : Nat) (R : Nat → Nat) : List Value := (List.range n).map fun a => if a < i then .slice (some ⟨R a, 0, none⟩) n n else .slice none 0 0
theorem outT_len (n i : Nat) (R : Nat → Nat) : (outT n i R).length = n := by simp [outT]
theorem outT_at {n i : Nat} {R : Nat → Nat} {a : Nat} (h : a < n) : (outT n i R)[a]? = some (if a < i then .slice (some ⟨R a, 0, none⟩) n n else .slice none 0 0) := by
 unfold outT
 rw [List.getElem?_map, List.getElem?_range h]
 rfl
theorem outT_zero (n : Nat) (R : Nat → Nat) : outT n 0 R = List.replicate n (.slice none 0 0) := by
 apply List.ext_getElem?
 intro a
 by_cases h : a < n
 ·rw [outT_at h, if_neg (by omega), List.getElem?_replicate, if_pos h]
 ·rw [List.getElem?_eq_none (by rw [outT_len]; omega), List.getElem?_eq_none (by rw [List.length_replicate]; omega)]
theorem outT_set {n i : Nat} {R : Nat → Nat} (hi : i < n) (q : Nat) : (outT n i R).set i (.slice (some ⟨q, 0, none⟩) n n) = outT n (i + 1) (fun a => if a = i then q else R a) := by
 apply List.ext_getElem?
 intro a
 rw [List.getElem?_set, outT_len]
 by_cases h : a < n
 ·by_cases e : i = a
  ·subst e
   rw [if_pos rfl, if_pos h, outT_at h, if_pos (by omega), if_pos rfl]
  ·rw [if_neg e, outT_at h, outT_at h]
   by_cases h2 : a < i
   ·rw [if_pos h2, if_pos (by omega), if_neg (by omega)]
   ·rw [if_neg h2, if_neg (by omega)]
 ·rw [List.getElem?_eq_none (l := outT n (i + 1) _) (by rw [outT_len]; omega)]
  by_cases e : i = a
  ·rw [if_pos e, if_neg (by omega)]
  ·rw [if_neg e, List.getElem?_eq_none (by rw [outT_len]; omega)]
theorem outT_full (n : Nat) (R : Nat → Nat) : outT n n R = (List.range n).map fun i => .slice (some ⟨R i, 0, none⟩) n n := by
 unfold outT
 apply List.map_congr_left
 intro a ha
 rw [if_pos (List.mem_range.1 ha)]
theorem row_false (n : Nat) (i : Nat) : rowT n (fun _ _ => false) i = List.replicate n (.bool false) := by
 unfold rowT
 rw [List.map_const', List.length_range]
set_option maxHeartbeats 8000000 in
set_option maxRecDepth 100000 in
theorem refSquare (n : Nat) (w : World) (hn : n ≤ 1000000) :
  Calls Tryz.prog 122 #[.int .i64 (n : Nat)] w fun e w' => ∃ B R, e = .returned (.slice (some ⟨B, 0, none⟩) n n) ∧ Tab w' w.heap.size B R n (fun _ _ => false) ∧ Below w.heap.size w w' := by
 have q63 : maxLen = 9223372036854775807 := rfl
 obtain ⟨i0, hi, hz0, hz1, hz2⟩ := info_parts infoBs
 obtain ⟨i1, hi1, hy0, hy1, hy2⟩ := info_parts infoBl
 have b1 : i0.bytes * n ≤ 281474976710656 := by rw [hz2]; omega
 have b2 : i1.bytes * n ≤ 281474976710656 := by rw [hy2]; omega
 have b3 : n ≤ maxLen := by omega
 have HB0 := Lib.hid (Below.refl w.heap.size w)
 go_enter Tryz.func122, Tryz.ntmps122
 go_wp2_with (at_make; refine wpList_make_full _ rfl (.tmp 5) (.tmp 5) 50 rfl w.heap.size 32 i0 (.slice none 0 0) 1 Tryz.underlying50 hi hz0 hz1 .i64 .i64 _ _ n rfl rfl rfl rfl b1 b3 (Nat.le_refl _) ?_; intro w1 hmade hgr1; rw [made_slices] at hmade)
 have HM := Lib.hid hmade
 have HG := Lib.hid hgr1
 clear hmade hgr1
 go_loopw [8] (fun v wr => ∃ (i : Nat) (R : Nat → Nat), v = .int .i64 (i : Nat) ∧ i ≤ n ∧ wr.ownsRow w.heap.size 32 1 (.slice (some ⟨w.heap.size, 0, none⟩) n n) n (outT n i R) ∧
  Hid (∀ a, a < i → wr.ownsRow w.heap.size 4 1 (.slice (some ⟨R a, 0, none⟩) n n) n (List.replicate n (.bool false)) ∧ R a ≠ w.heap.size ∧ ∀ b, b < i → R a = R b → a = b) ∧ Below w.heap.size w wr) (fun v _ => n - (intOf v).toNat)
 case atStart => exact ⟨0, fun _ => 0, rfl, Nat.zero_le _, by rw [outT_zero]; exact HM.out, Lib.hid (fun a ha => absurd ha (Nat.not_lt_zero _)), ⟨HG.out.os, HG.out.tape, HG.out.output, HG.out.size, fun k hk => HG.out.block k hk (by simp)⟩⟩
 case round =>
  obtain ⟨i, R, rfl, hin, hout, hrows, hB⟩ := hrel
  have HO := Lib.hid hout
  have HB := Lib.hid hB
  by_cases hlt : i < n
  ·have hwl := (hout.lt w.heap.size rfl).2
   clear hout hB
   go_wp2_with (at_make; refine wpList_make_full _ rfl (.tmp 13) (.tmp 13) 32 rfl w.heap.size 4 i1 (.bool false) 1 Tryz.underlying32 hi1 hy0 hy1 .i64 .i64 _ _ n rfl rfl rfl rfl b2 b3 HB.out.size ?_; intro w2 hmade hgr2; rw [made_bools] at hmade; have HO2 := Lib.hid (HO.out.kept hgr2 (.inr (by simp [Value.ownBlock]))); have c0 := HO2.out.cells (g := w.heap.size) rfl i _ (outT_at hlt); rw [if_neg (Nat.lt_irrefl i), Addr.add_lit, Nat.zero_add] at c0; have f0 := own_fz HO2.out i)
   have HM2 := Lib.hid hmade
   have HG2 := Lib.hid hgr2
   have HR := Lib.hid hrows
   clear hmade hgr2 c0 f0 hrows
   go_roundw
   case rel =>
    have hne : wr.heap.size ≠ w.heap.size := by omega
    refine ⟨i + 1, fun a => if a = i then wr.heap.size else R a, by simp, by omega, ?_, Lib.hid (fun a ha => ?_), ?_⟩
    ·have h1 := own_put (k := i) HO2.out (.slice (some ⟨wr.heap.size, 0, none⟩) n n)
     rw [outT_set hlt] at h1
     exact h1
    ·show (w2.setCell ⟨w.heap.size, i, none⟩ (.slice (some ⟨wr.heap.size, 0, none⟩) n n)).ownsRow w.heap.size 4 1 (.slice (some ⟨if a = i then wr.heap.size else R a, 0, none⟩) n n) n (List.replicate n (.bool false)) ∧ (if a = i then wr.heap.size else R a) ≠ w.heap.size ∧ ∀ b, b < i + 1 → (if a = i then wr.heap.size else R a) = (if b = i then wr.heap.size else R b) → a = b
     by_cases ea : a = i
     ·subst ea
      simp only [if_true]
      refine ⟨HM2.out.kept (grown_cell w2 ⟨w.heap.size, a, none⟩ _) (.inr (fun e => by injection e with e; exact hne e)), hne, fun b hb e => ?_⟩
      by_cases eb : b = a
      ·exact eb.symm
      ·exfalso
       rw [if_neg eb] at e
       have h9 : R b < wr.heap.size := ((HR.out b (by omega)).1.lt (R b) rfl).2
       omega
     ·have hai : a < i := by omega
      obtain ⟨r1, r2, r3⟩ := HR.out a hai
      simp only [if_neg ea]
      refine ⟨(r1.kept HG2.out (.inr (by simp [Value.ownBlock]))).kept (grown_cell w2 ⟨w.heap.size, i, none⟩ _) (.inr (fun e => by injection e with e; exact r2 e)), r2, fun b hb e => ?_⟩
      by_cases eb : b = i
      ·exfalso
       rw [if_pos eb] at e
       have h9 : R a < wr.heap.size := (r1.lt (R a) rfl).2
       omega
      ·rw [if_neg eb] at e
       exact r3 b (by omega) e
    ·have h1 : Below w.heap.size w w2 := ⟨HG2.out.os.trans HB.out.os, HG2.out.tape.trans HB.out.tape, HG2.out.output.trans HB.out.output, Nat.le_trans HB.out.size HG2.out.size, fun k hk => (HG2.out.block k (by have := HB.out.size; omega) (by simp)).trans (HB.out.block k hk)⟩
     exact h1.setCell (p := ⟨w.heap.size, i, none⟩) (Nat.le_refl _) _
   case measure => (show n - (i + 1) < n - i; omega)
  ·obtain rfl : i = n := by omega
   clear hout hB
   have HT := Lib.hid (show Tab wr w.heap.size w.heap.size R i (fun _ _ => false) from ⟨by have h1 := HO.out; rw [outT_full] at h1; exact h1, fun a ha => by rw [row_false]; exact (hrows.out a ha).1, fun a ha => (hrows.out a ha).2⟩)
   go_wp2_with fail
   go_ret
   exact ⟨w.heap.size, R, rfl, HT.out, HB.out⟩
end Go.Proofs.YtdbgaccnejffpaaGreat.Paths
