/-
  Sets of points, one for each place, in memory; the landed sets, add, row (stage 14). By an AI agent.
-/
import Derived.Test.YtcpmcgbjmncalaaGPathsUnion18
import Derived.Laws.Bits64b
namespace Go.Proofs.Ytcpmcgbjmncalaa.Paths
open Go.RowKit Go.Proofs.Ytcpmcgbjmncalaa.Ints Go.Proofs.Ytcpmcgbjmncalaa.Mem Go.Proofs.Ytcpmcgbjmncalaa.Src Go.Proofs.Ytcpmcgbjmncalaa.Tree Go.Proofs.Ytcpmcgbjmncalaa.BitsWalks Go.Proofs.Ytcpmcgbjmncalaa.RdW Go.Proofs.Ytcpmcgbjmncalaa.Words

theorem infoWs : (Try.prog.info? 35).map (fun i => (i.zero, i.size, i.bytes)) = some (some (.slice none 0 0), 1, 24) := by kernel_rfl
theorem infoU : (Try.prog.info? 62).map (fun i => (i.zero, i.size, i.bytes)) = some (some (.int .u64 0), 1, 8) := by kernel_rfl
/-- Only blocks of D are stored into. -/
structure Left (D : Nat → Prop) (w w' : World) : Prop where
  os : w'.os = w.os
  tape : w'.tape = w.tape
  output : w'.output = w.output
  size : w.heap.size ≤ w'.heap.size
  block : ∀ q, q < w.heap.size → ¬ D q → w'.heap[q]? = w.heap[q]?
theorem Left.refl (D : Nat → Prop) (w : World) : Left D w w := ⟨rfl, rfl, rfl, Nat.le_refl _, fun _ _ _ => rfl⟩
theorem Left.trans {D : Nat → Prop} {w w1 w2 : World} (h : Left D w w1) (h2 : Left D w1 w2) : Left D w w2 :=
  ⟨h2.os.trans h.os, h2.tape.trans h.tape, h2.output.trans h.output, Nat.le_trans h.size h2.size, fun q hq hn => (h2.block q (Nat.lt_of_lt_of_le hq h.size) hn).trans (h.block q hq hn)⟩
theorem Left.of_below {D : Nat → Prop} {w w' : World} (h : Below w.heap.size w w') : Left D w w' := ⟨h.os, h.tape, h.output, h.size, fun q hq _ => h.block q hq⟩
theorem Left.set {D : Nat → Prop} {w w' : World} (h : Left D w w') (p : Addr) (u : Value) (hp : D p.block) : Left D w (w'.setCell p u) :=
  h.trans ⟨rfl, rfl, rfl, by simp, fun q _ hn => Below.heap_setCell w' p u q (fun e => hn (by rw [e]; exact hp))⟩
theorem Left.below {D : Nat → Prop} {B : Nat} {w w' : World} (h : Left D w w') (hd : ∀ q, D q → B ≤ q) (hB : B ≤ w.heap.size) : Below B w w' := ⟨h.os, h.tape, h.output, h.size, fun q hq => h.block q (by omega) (fun e => by have := hd q e; omega)⟩
theorem Left.more {D D' : Nat → Prop} {w w' : World} (h : Left D w w') (hd : ∀ q, D q → D' q) : Left D' w w' := ⟨h.os, h.tape, h.output, h.size, fun q hq hn => h.block q hq (fun e => hn (hd q e))⟩
theorem own_same' {w w' : World} {base : Nat} {e : TypeId} {size : Nat} {v : Value} {n : Nat} {xs : List Value} (h : w.ownsRow base e size v n xs) (hk : ∀ q, v.ownBlock = some q → w'.heap[q]? = w.heap[q]?) : w'.ownsRow base e size v n xs := by
  refine ⟨h.1, ?_⟩
  rcases h.2 with h2 | ⟨g, cap, cur, rfl, h4, h5, h6⟩
  · exact .inl h2
  · exact .inr ⟨g, cap, cur, rfl, h4, (hk g rfl).trans h5, h6⟩
/-- A set's words. -/
def wdS (wn x : Nat) : List Value := List.replicate wn (.int .u64 ((x : Nat) : Int))
/-- Sets of points: their slice in the block B, their words in the blocks R, all from lo on. -/
structure Sets (w : World) (lo B : Nat) (R : Nat → Nat) (np wn : Nat) (g : Nat → Nat) : Prop where
  out : w.ownsRow lo 35 1 (.slice (some ⟨B, 0, none⟩) np np) np ((List.range np).map fun i => .slice (some ⟨R i, 0, none⟩) wn wn)
  row : ∀ i, i < np → w.ownsRow lo 62 1 (.slice (some ⟨R i, 0, none⟩) wn wn) wn (wdS wn (g i))
  off : ∀ i, i < np → R i ≠ B ∧ ∀ j, j < np → R i = R j → i = j
  wd : ∀ i, i < np → g i < 18446744073709551616
theorem Sets.kept {w w' : World} {lo B : Nat} {R : Nat → Nat} {np wn : Nat} {g : Nat → Nat} (h : Sets w lo B R np wn g) (hb : w'.heap[B]? = w.heap[B]?) (hr : ∀ i, i < np → w'.heap[R i]? = w.heap[R i]?) : Sets w' lo B R np wn g :=
  ⟨own_same' h.out (fun q e => by injection e with e; rw [← e]; exact hb), fun i hi => own_same' (h.row i hi) (fun q e => by injection e with e; rw [← e]; exact hr i hi), h.off, h.wd⟩
theorem Sets.lt {w : World} {lo B : Nat} {R : Nat → Nat} {np wn : Nat} {g : Nat → Nat} (h : Sets w lo B R np wn g) : (lo ≤ B ∧ B < w.heap.size) ∧ ∀ i, i < np → lo ≤ R i ∧ R i < w.heap.size := ⟨h.out.lt B rfl, fun i hi => (h.row i hi).lt _ rfl⟩
theorem Sets.below {w w' : World} {lo B : Nat} {R : Nat → Nat} {np wn : Nat} {g : Nat → Nat} (h : Sets w lo B R np wn g) (hb : Below w.heap.size w w') : Sets w' lo B R np wn g :=
  h.kept (hb.block B h.lt.1.2) (fun i hi => hb.block _ (h.lt.2 i hi).2)
theorem Sets.left {D : Nat → Prop} {w w' : World} {lo B : Nat} {R : Nat → Nat} {np wn : Nat} {g : Nat → Nat} (h : Sets w lo B R np wn g) (hl : Left D w w') (hB : ¬ D B) (hR : ∀ i, i < np → ¬ D (R i)) : Sets w' lo B R np wn g :=
  h.kept (hl.block B h.lt.1.2 hB) (fun i hi => hl.block _ (h.lt.2 i hi).2 (hR i hi))
theorem Sets.ext {w : World} {lo B : Nat} {R : Nat → Nat} {np wn : Nat} {g g' : Nat → Nat} (h : Sets w lo B R np wn g) (he : ∀ i, i < np → g i = g' i) : Sets w lo B R np wn g' :=
  ⟨h.out, fun i hi => he i hi ▸ h.row i hi, h.off, fun i hi => he i hi ▸ h.wd i hi⟩
theorem Sets.outer {w : World} {lo B : Nat} {R : Nat → Nat} {np wn : Nat} {g : Nat → Nat} (h : Sets w lo B R np wn g) {i : Nat} (hi : i < np) : w.cell? ⟨B, i, none⟩ = some (.slice (some ⟨R i, 0, none⟩) wn wn) := by
  have := h.out.cells (g := B) rfl i (.slice (some ⟨R i, 0, none⟩) wn wn) (by rw [List.getElem?_map, List.getElem?_range hi]; rfl)
  rwa [Addr.add_lit, Nat.zero_add] at this
theorem Sets.inner {w : World} {lo B : Nat} {R : Nat → Nat} {np : Nat} {g : Nat → Nat} (h : Sets w lo B R np 1 g) {i : Nat} (hi : i < np) : w.cell? ⟨R i, 0, none⟩ = some (.int .u64 ((g i : Nat) : Int)) := by
  have := (h.row i hi).cells (g := R i) rfl 0 (.int .u64 ((g i : Nat) : Int)) rfl
  rwa [Addr.add_lit, Nat.zero_add] at this
theorem Sets.fz {w : World} {lo B : Nat} {R : Nat → Nat} {np wn : Nat} {g : Nat → Nat} (h : Sets w lo B R np wn g) {i : Nat} (hi : i < np) (k : Nat) : w.frozen? ⟨R i, k, none⟩ = false := own_fz (h.row i hi) k
def updS (g : Nat → Nat) (i x : Nat) : Nat → Nat := fun a => if a = i then x else g a
/-- One word is stored. -/
theorem Sets.set {w : World} {lo B : Nat} {R : Nat → Nat} {np : Nat} {g : Nat → Nat} (h : Sets w lo B R np 1 g) {i : Nat} (hi : i < np) (x : Nat) (hx : x < 18446744073709551616) : Sets (w.setCell ⟨R i, 0, none⟩ (.int .u64 ((x : Nat) : Int))) lo B R np 1 (updS g i x) := by
  obtain ⟨hiB, hinj⟩ := h.off i hi
  refine ⟨h.out.kept (grown_cell w ⟨R i, 0, none⟩ _) (.inr (fun e => by injection e with e; exact hiB e.symm)), fun a ha => ?_, h.off, fun a ha => ?_⟩
  · by_cases ea : a = i
    · subst ea
      have h1 := own_put (k := 0) (h.row a ha) (.int .u64 ((x : Nat) : Int))
      unfold updS
      rw [if_pos rfl]
      exact h1
    · unfold updS
      rw [if_neg ea]
      exact (h.row a ha).kept (grown_cell w ⟨R i, 0, none⟩ _) (.inr (fun e => by injection e with e; exact ea (hinj a ha e.symm).symm))
  · unfold updS
    split
    · exact hx
    · exact h.wd a ha
/-- The outer row while it is being filled. -/
def outS (n wn i : Nat) (R : Nat → Nat) : List Value := (List.range n).map fun a => if a < i then .slice (some ⟨R a, 0, none⟩) wn wn else .slice none 0 0
theorem outS_len (n wn i : Nat) (R : Nat → Nat) : (outS n wn i R).length = n := by simp [outS]
theorem outS_at {n wn i : Nat} {R : Nat → Nat} {a : Nat} (h : a < n) : (outS n wn i R)[a]? = some (if a < i then .slice (some ⟨R a, 0, none⟩) wn wn else .slice none 0 0) := by
  unfold outS
  rw [List.getElem?_map, List.getElem?_range h]
  rfl
theorem outS_zero (n wn : Nat) (R : Nat → Nat) : outS n wn 0 R = List.replicate n (.slice none 0 0) := by
  apply List.ext_getElem?
  intro a
  by_cases h : a < n
  · rw [outS_at h, if_neg (by omega), List.getElem?_replicate, if_pos h]
  · rw [List.getElem?_eq_none (by rw [outS_len]; omega), List.getElem?_eq_none (by rw [List.length_replicate]; omega)]
theorem outS_set {n wn i : Nat} {R : Nat → Nat} (_hi : i < n) (q : Nat) : (outS n wn i R).set i (.slice (some ⟨q, 0, none⟩) wn wn) = outS n wn (i + 1) (fun a => if a = i then q else R a) := by
  apply List.ext_getElem?
  intro a
  rw [List.getElem?_set, outS_len]
  by_cases h : a < n
  · by_cases e : i = a
    · subst e
      rw [if_pos rfl, if_pos h, outS_at h, if_pos (by omega), if_pos rfl]
    · rw [if_neg e, outS_at h, outS_at h]
      by_cases h2 : a < i
      · rw [if_pos h2, if_pos (by omega), if_neg (by omega)]
      · rw [if_neg h2, if_neg (by omega)]
  · rw [List.getElem?_eq_none (l := outS n wn (i + 1) _) (by rw [outS_len]; omega)]
    by_cases e : i = a
    · rw [if_pos e, if_neg (by omega)]
    · rw [if_neg e, List.getElem?_eq_none (by rw [outS_len]; omega)]
theorem outS_full (n wn : Nat) (R : Nat → Nat) : outS n wn n R = (List.range n).map fun i => .slice (some ⟨R i, 0, none⟩) wn wn := by
  unfold outS
  apply List.map_congr_left
  intro a ha
  rw [if_pos (List.mem_range.1 ha)]
theorem made_wordsS (n : Nat) : (madeCells (Value.int .u64 0).cells (n * 1)).toList = wdS n 0 := by
  rw [Nat.mul_one]
  have e : (Value.int .u64 0).cells = #[.int .u64 0] := rfl
  rw [e]
  unfold wdS
  apply List.ext_getElem
  · simp [madeCells]
  · intro i h1 h2
    simp [madeCells, Nat.mod_one]
set_option maxHeartbeats 8000000 in
set_option maxRecDepth 100000 in
/-- (*graph).sets -/
theorem landSets (lo gp np nt : Nat) (st sp : List Ed) (nv : Nat) (w : World) (hG : GMemE w lo gp np nt st sp) (hnp : np ≤ 2000000) (hnv : nv ≤ 1000000) :
    Calls Try.prog 29 #[.pointer (some ⟨gp, 0, none⟩), .int .i64 (nv : Nat)] w fun e w' => ∃ B R, e = .returned (.slice (some ⟨B, 0, none⟩) np np) ∧ Sets w' w.heap.size B R np ((nv + 63) / 64) (fun _ => 0) ∧ Below w.heap.size w w' := by
  have q63 : maxLen = 9223372036854775807 := rfl
  obtain ⟨sv, pv, hG⟩ := hG
  have c0 := hG.blk.cell 0 rfl
  obtain ⟨wn, hwn⟩ : ∃ wn, (nv + 63) / 64 = wn := ⟨_, rfl⟩
  have hwm : wn ≤ 20000 := by omega
  have ew : ((nv : Nat) : Int) + 64 - 1 = ((nv + 63 : Nat) : Int) := by omega
  have ew1 : ((nv : Nat) : Int) + 64 = ((nv + 64 : Nat) : Int) := by omega
  obtain ⟨i0, hi, hz0, hz1, hz2⟩ := info_parts infoWs
  obtain ⟨i1, hi1, hy0, hy1, hy2⟩ := info_parts infoU
  have b1 : i0.bytes * np ≤ 281474976710656 := by rw [hz2]; omega
  have b2 : i1.bytes * wn ≤ 281474976710656 := by rw [hy2]; omega
  have b3 : np ≤ maxLen := by omega
  have b4 : wn ≤ maxLen := by omega
  obtain ⟨n64, hn64⟩ : ∃ m, nv + 64 = m := ⟨_, rfl⟩
  obtain ⟨n63, hn63⟩ : ∃ m, nv + 63 = m := ⟨_, rfl⟩
  have a1 : ((nv : Nat) : Int) + 64 = ((n64 : Nat) : Int) := by omega
  have a2 : ((n64 : Nat) : Int) - 1 = ((n63 : Nat) : Int) := by omega
  have a3 : ((n63 : Nat) : Int) / 64 = ((wn : Nat) : Int) := by omega
  have a4 : ((n64 : Nat) : Int) ≤ 1000064 := by omega
  have a5 : (64 : Int) ≤ ((n64 : Nat) : Int) := by omega
  have a6 : ((n63 : Nat) : Int) ≤ 1000063 := by omega
  have a7 : ((nv : Nat) : Int) ≤ 1000000 := by omega
  rw [hwn]
  clear hG hwn ew ew1 hn64 hn63
  go_enter Try.func29, Try.ntmps29
  go_wp2_with (at_make; refine wpList_make_full _ rfl (.tmp 10) (.tmp 10) 30 rfl w.heap.size 35 i0 (.slice none 0 0) 1 Try.underlying30 hi hz0 hz1 .i64 .i64 _ _ np rfl rfl rfl rfl b1 b3 (Nat.le_refl _) ?_; intro w1 hmade hgr1; rw [made_slices] at hmade)
  have HM := Lib.hid hmade
  have HG := Lib.hid hgr1
  clear hmade hgr1 c0
  go_loopw [14] (fun v wr => ∃ (i : Nat) (R : Nat → Nat), v = .int .i64 (i : Nat) ∧ i ≤ np ∧ wr.ownsRow w.heap.size 35 1 (.slice (some ⟨w.heap.size, 0, none⟩) np np) np (outS np wn i R) ∧
    Hid (∀ a, a < i → wr.ownsRow w.heap.size 62 1 (.slice (some ⟨R a, 0, none⟩) wn wn) wn (wdS wn 0) ∧ R a ≠ w.heap.size ∧ ∀ b, b < i → R a = R b → a = b) ∧ Below w.heap.size w wr) (fun v _ => np - (intOf v).toNat)
  case atStart => exact ⟨0, fun _ => 0, rfl, Nat.zero_le _, by rw [outS_zero]; exact HM.out, Lib.hid (fun a ha => absurd ha (Nat.not_lt_zero _)), ⟨HG.out.os, HG.out.tape, HG.out.output, HG.out.size, fun k hk => HG.out.block k hk (by simp)⟩⟩
  case round =>
    obtain ⟨i, R, rfl, hin, hout, hrows, hB⟩ := hrel
    have HO := Lib.hid hout
    have HB := Lib.hid hB
    by_cases hlt : i < np
    · have hwl := (hout.lt w.heap.size rfl).2
      clear hout hB
      go_wp2_with (at_make; refine wpList_make_full _ rfl (.tmp 22) (.tmp 22) 35 rfl w.heap.size 62 i1 (.int .u64 0) 1 Try.underlying35 hi1 hy0 hy1 .i64 .i64 _ _ wn rfl rfl rfl rfl b2 b4 HB.out.size ?_; intro w2 hmade hgr2; rw [made_wordsS] at hmade; have HO2 := Lib.hid (HO.out.kept hgr2 (.inr (by simp [Value.ownBlock]))); have c0 := HO2.out.cells (g := w.heap.size) rfl i _ (outS_at hlt); rw [if_neg (Nat.lt_irrefl i), Addr.add_lit, Nat.zero_add] at c0; have f0 := own_fz HO2.out i)
      have HM2 := Lib.hid hmade
      have HG2 := Lib.hid hgr2
      have HR := Lib.hid hrows
      clear hmade hgr2 c0 f0 hrows
      go_roundw
      case rel =>
        have hne : wr.heap.size ≠ w.heap.size := by omega
        refine ⟨i + 1, fun a => if a = i then wr.heap.size else R a, by simp, by omega, ?_, Lib.hid (fun a ha => ?_), ?_⟩
        · have h1 := own_put (k := i) HO2.out (.slice (some ⟨wr.heap.size, 0, none⟩) wn wn)
          rw [outS_set hlt] at h1
          exact h1
        · show (w2.setCell ⟨w.heap.size, i, none⟩ (.slice (some ⟨wr.heap.size, 0, none⟩) wn wn)).ownsRow w.heap.size 62 1 (.slice (some ⟨if a = i then wr.heap.size else R a, 0, none⟩) wn wn) wn (wdS wn 0) ∧ (if a = i then wr.heap.size else R a) ≠ w.heap.size ∧ ∀ b, b < i + 1 → (if a = i then wr.heap.size else R a) = (if b = i then wr.heap.size else R b) → a = b
          by_cases ea : a = i
          · subst ea
            simp only [if_true]
            refine ⟨HM2.out.kept (grown_cell w2 ⟨w.heap.size, a, none⟩ _) (.inr (fun e => by injection e with e; exact hne e)), hne, fun b hb e => ?_⟩
            by_cases eb : b = a
            · exact eb.symm
            · exfalso
              rw [if_neg eb] at e
              have h9 : R b < wr.heap.size := ((HR.out b (by omega)).1.lt (R b) rfl).2
              omega
          · have hai : a < i := by omega
            obtain ⟨r1, r2, r3⟩ := HR.out a hai
            simp only [if_neg ea]
            refine ⟨(r1.kept HG2.out (.inr (by simp [Value.ownBlock]))).kept (grown_cell w2 ⟨w.heap.size, i, none⟩ _) (.inr (fun e => by injection e with e; exact r2 e)), r2, fun b hb e => ?_⟩
            by_cases eb : b = i
            · exfalso
              rw [if_pos eb] at e
              have h9 : R a < wr.heap.size := (r1.lt (R a) rfl).2
              omega
            · rw [if_neg eb] at e
              exact r3 b (by omega) e
        · have h1 : Below w.heap.size w w2 := ⟨HG2.out.os.trans HB.out.os, HG2.out.tape.trans HB.out.tape, HG2.out.output.trans HB.out.output, Nat.le_trans HB.out.size HG2.out.size, fun k hk => (HG2.out.block k (by have := HB.out.size; omega) (by simp)).trans (HB.out.block k hk)⟩
          exact h1.setCell (p := ⟨w.heap.size, i, none⟩) (Nat.le_refl _) _
      case measure => (show np - (i + 1) < np - i; omega)
    · obtain rfl : i = np := by omega
      clear hout hB
      have HT := Lib.hid (show Sets wr w.heap.size w.heap.size R i wn (fun _ => 0) from ⟨by have h1 := HO.out; rw [outS_full] at h1; exact h1, fun a ha => (hrows.out a ha).1, fun a ha => (hrows.out a ha).2, fun _ _ => by decide⟩)
      go_wp2_with fail
      go_ret
      exact ⟨w.heap.size, R, rfl, HT.out, HB.out⟩
set_option maxRecDepth 100000 in
set_option maxHeartbeats 2000000 in
/-- add: one word into another. -/
theorem landAdd (ra rb x y : Nat) (w : World) (ha : w.cell? ⟨ra, 0, none⟩ = some (.int .u64 ((x : Nat) : Int))) (hf : w.frozen? ⟨ra, 0, none⟩ = false) (hb : w.cell? ⟨rb, 0, none⟩ = some (.int .u64 ((y : Nat) : Int))) (hx : x < 18446744073709551616) (hy : y < 18446744073709551616) :
    Calls Try.prog 48 #[.slice (some ⟨ra, 0, none⟩) 1 1, .slice (some ⟨rb, 0, none⟩) 1 1] w fun e w' => e = .returned (.tuple #[]) ∧ w' = w.setCell ⟨ra, 0, none⟩ (.int .u64 ((x ||| y : Nat) : Int)) := by
  have ho := bits_or_u64_nat x y hx hy
  obtain ⟨z, hz⟩ : ∃ z, x ||| y = z := ⟨_, rfl⟩
  rw [hz] at ho ⊢
  clear hz
  go_enter Try.func48, Try.ntmps48
  go_wp2_with fail
  refine wp_loop_rounds 2 ?_
  rw [rounds_succ]
  go_wp2_with fail
  rw [rounds_succ]
  go_wp2_with fail
  go_end0
  exact ⟨rfl, rfl⟩
end Go.Proofs.Ytcpmcgbjmncalaa.Paths
