/-
  Sets of points, one for each place, in memory; the landed sets, add, row (stage 14). By an AI agent.
  The landed walk in memory: its nodes, its tests' truth; put (stage 15). By an AI agent.
-/
import Derived.Test.YtdbgaccnejffpaaGreatDoorGSatDual10
import Derived.Laws.Bits64b
import Derived.Test.YtdbgaccnejffpaaGreatDoorGSatDual1
import Derived.Test.YtdbgaccnejffpaaGreatDoorGSatDual24
import Derived.Test.YtdbgaccnejffpaaGreatDoorGSatDual4
import Derived.Deep.AppendLies
namespace Go.Proofs.YtdbgaccnejffpaaGreatDoor.Paths
open Go.RowKit Go.Proofs.YtdbgaccnejffpaaGreatDoor.Ints Go.Proofs.YtdbgaccnejffpaaGreatDoor.Mem Go.Proofs.YtdbgaccnejffpaaGreatDoor.Src Go.Proofs.YtdbgaccnejffpaaGreatDoor.Tree Go.Proofs.YtdbgaccnejffpaaGreatDoor.BitsWalks Go.Proofs.YtdbgaccnejffpaaGreatDoor.RdW Go.Proofs.YtdbgaccnejffpaaGreatDoor.Words
theorem infoWs : (Tryz.prog.info? 107).map (fun i => (i.zero, i.size, i.bytes)) = some (some (.slice none 0 0), 1, 24) := by kernel_rfl
theorem infoU : (Tryz.prog.info? 22).map (fun i => (i.zero, i.size, i.bytes)) = some (some (.int .u64 0), 1, 8) := by kernel_rfl
structure Left (D : Nat → Prop) (w w' : World) : Prop where
 os : w'.os = w.os
 tape : w'.tape = w.tape
 output : w'.output = w.output
 size : w.heap.size ≤ w'.heap.size
 block : ∀ q, q < w.heap.size → ¬ D q → w'.heap[q]? = w.heap[q]?
theorem Left.refl (D : Nat → Prop) (w : World) : Left D w w := ⟨rfl, rfl, rfl, Nat.le_refl _, fun _ _ _ => rfl⟩
theorem Left.trans {D : Nat → Prop} {w w1 w2 : World} (h : Left D w w1) (h2 : Left D w1 w2) : Left D w w2 :=
 ⟨h2.os.trans h.os, h2.tape.trans h.tape, h2.output.trans h.output, Nat.le_trans h.size h2.size, fun q hq hn => (h2.block q (Nat.lt_of_lt_of_le hq h.size) hn).trans (h.block q hq hn)⟩
theorem Left.of_below {D : Nat → Prop} {w w' : World} (h : Below w.heap.size w w') : Left D w w' := ⟨h.os, h.tape, h.output, h.size, fun q hq _ => h.block q hq⟩
theorem Left.set {D : Nat → Prop} {w w' : World} (h : Left D w w') (p : Addr) (u : Value) (hp : D p.block) : Left D w (w'.setCell p u) :=
 h.trans ⟨rfl, rfl, rfl, by simp, fun q _ hn => Below.heap_setCell w' p u q (fun e => hn (by rw [e]; exact hp))⟩
theorem Left.below {D : Nat → Prop} {B : Nat} {w w' : World} (h : Left D w w') (hd : ∀ q, D q → B ≤ q) (hB : B ≤ w.heap.size) : Below B w w' := ⟨h.os, h.tape, h.output, h.size, fun q hq => h.block q (by omega) (fun e => by have := hd q e; omega)⟩
theorem Left.more {D D' : Nat → Prop} {w w' : World} (h : Left D w w') (hd : ∀ q, D q → D' q) : Left D' w w' := ⟨h.os, h.tape, h.output, h.size, fun q hq hn => h.block q hq (fun e => hn (hd q e))⟩
theorem own_same' {w w' : World} {base : Nat} {e : TypeId} {size : Nat} {v : Value} {n : Nat} {xs : List Value} (h : w.ownsRow base e size v n xs) (hk : ∀ q, v.ownBlock = some q → w'.heap[q]? = w.heap[q]?) : w'.ownsRow base e size v n xs := by
 refine ⟨h.1, ?_⟩
 rcases h.2 with h2 | ⟨g, cap, cur, rfl, h4, h5, h6⟩
 ·exact .inl h2
 ·exact .inr ⟨g, cap, cur, rfl, h4, (hk g rfl).trans h5, h6⟩
def wdS (wn x : Nat) : List Value := List.replicate wn (.int .u64 ((x : Nat) : Int))
structure Sets (w : World) (lo B : Nat) (R : Nat → Nat) (np wn : Nat) (g : Nat → Nat) : Prop where
 out : w.ownsRow lo 107 1 (.slice (some ⟨B, 0, none⟩) np np) np ((List.range np).map fun i => .slice (some ⟨R i, 0, none⟩) wn wn)
 row : ∀ i, i < np → w.ownsRow lo 22 1 (.slice (some ⟨R i, 0, none⟩) wn wn) wn (wdS wn (g i))
 off : ∀ i, i < np → R i ≠ B ∧ ∀ j, j < np → R i = R j → i = j
 wd : ∀ i, i < np → g i < 18446744073709551616
theorem Sets.kept {w w' : World} {lo B : Nat} {R : Nat → Nat} {np wn : Nat} {g : Nat → Nat} (h : Sets w lo B R np wn g) (hb : w'.heap[B]? = w.heap[B]?) (hr : ∀ i, i < np → w'.heap[R i]? = w.heap[R i]?) : Sets w' lo B R np wn g :=
 ⟨own_same' h.out (fun q e => by injection e with e; rw [← e]; exact hb), fun i hi => own_same' (h.row i hi) (fun q e => by injection e with e; rw [← e]; exact hr i hi), h.off, h.wd⟩
theorem Sets.lt {w : World} {lo B : Nat} {R : Nat → Nat} {np wn : Nat} {g : Nat → Nat} (h : Sets w lo B R np wn g) : (lo ≤ B ∧ B < w.heap.size) ∧ ∀ i, i < np → lo ≤ R i ∧ R i < w.heap.size := ⟨h.out.lt B rfl, fun i hi => (h.row i hi).lt _ rfl⟩
theorem Sets.below {w w' : World} {lo B : Nat} {R : Nat → Nat} {np wn : Nat} {g : Nat → Nat} (h : Sets w lo B R np wn g) (hb : Below w.heap.size w w') : Sets w' lo B R np wn g :=
 h.kept (hb.block B h.lt.1.2) (fun i hi => hb.block _ (h.lt.2 i hi).2)
theorem Sets.left {D : Nat → Prop} {w w' : World} {lo B : Nat} {R : Nat → Nat} {np wn : Nat} {g : Nat → Nat} (h : Sets w lo B R np wn g) (hl : Left D w w') (hB : ¬ D B) (hR : ∀ i, i < np → ¬ D (R i)) : Sets w' lo B R np wn g :=
 h.kept (hl.block B h.lt.1.2 hB) (fun i hi => hl.block _ (h.lt.2 i hi).2 (hR i hi))
theorem Sets.ext {w : World} {lo B : Nat} {R : Nat → Nat} {np wn : Nat} {g g' : Nat → Nat} (h : Sets w lo B R np wn g) (he : ∀ i, i < np → g i = g' i) : Sets w lo B R np wn g' :=
 ⟨h.out, fun i hi => he i hi ▸ h.row i hi, h.off, fun i hi => he i hi ▸ h.wd i hi⟩
theorem Sets.outer {w : World} {lo B : Nat} {R : Nat → Nat} {np wn : Nat} {g : Nat → Nat} (h : Sets w lo B R np wn g) {i : Nat} (hi : i < np) : w.cell? ⟨B, i, none⟩ = some (.slice (some ⟨R i, 0, none⟩) wn wn) := by
 have := h.out.cells (g := B) rfl i (.slice (some ⟨R i, 0, none⟩) wn wn) (by rw [List.getElem?_map, List.getElem?_range hi]; rfl)
 rwa [Addr.add_lit, Nat.zero_add] at this
theorem Sets.inner {w : World} {lo B : Nat} {R : Nat → Nat} {np : Nat} {g : Nat → Nat} (h : Sets w lo B R np 1 g) {i : Nat} (hi : i < np) : w.cell? ⟨R i, 0, none⟩ = some (.int .u64 ((g i : Nat) : Int)) := by
 have := (h.row i hi).cells (g := R i) rfl 0 (.int .u64 ((g i : Nat) : Int)) rfl
 rwa [Addr.add_lit, Nat.zero_add] at this
theorem Sets.fz {w : World} {lo B : Nat} {R : Nat → Nat} {np wn : Nat} {g : Nat → Nat} (h : Sets w lo B R np wn g) {i : Nat} (hi : i < np) (k : Nat) : w.frozen? ⟨R i, k, none⟩ = false := own_fz (h.row i hi) k
def updS (g : Nat → Nat) (i x : Nat) : Nat → Nat := fun a => if a = i then x else g a
theorem Sets.set {w : World} {lo B : Nat} {R : Nat → Nat} {np : Nat} {g : Nat → Nat} (h : Sets w lo B R np 1 g) {i : Nat} (hi : i < np) (x : Nat) (hx : x < 18446744073709551616) : Sets (w.setCell ⟨R i, 0, none⟩ (.int .u64 ((x : Nat) : Int))) lo B R np 1 (updS g i x) := by
 obtain ⟨hiB, hinj⟩ := h.off i hi
 refine ⟨h.out.kept (grown_cell w ⟨R i, 0, none⟩ _) (.inr (fun e => by injection e with e; exact hiB e.symm)), fun a ha => ?_, h.off, fun a ha => ?_⟩
 ·by_cases ea : a = i
  ·subst ea
   have h1 := own_put (k := 0) (h.row a ha) (.int .u64 ((x : Nat) : Int))
   unfold updS
   rw [if_pos rfl]
   exact h1
  ·unfold updS
   rw [if_neg ea]
   exact (h.row a ha).kept (grown_cell w ⟨R i, 0, none⟩ _) (.inr (fun e => by injection e with e; exact ea (hinj a ha e.symm).symm))
 ·unfold updS
  split
  ·exact hx
  ·exact h.wd a ha
def outS (n wn i : Nat) (R : Nat → Nat) : List Value := (List.range n).map fun a => if a < i then .slice (some ⟨R a, 0, none⟩) wn wn else .slice none 0 0
theorem outS_len (n wn i : Nat) (R : Nat → Nat) : (outS n wn i R).length = n := by simp [outS]
theorem outS_at {n wn i : Nat} {R : Nat → Nat} {a : Nat} (h : a < n) : (outS n wn i R)[a]? = some (if a < i then .slice (some ⟨R a, 0, none⟩) wn wn else .slice none 0 0) := by
 unfold outS
 rw [List.getElem?_map, List.getElem?_range h]
 rfl
theorem outS_zero (n wn : Nat) (R : Nat → Nat) : outS n wn 0 R = List.replicate n (.slice none 0 0) := by
 apply List.ext_getElem?
 intro a
 by_cases h : a < n
 ·rw [outS_at h, if_neg (by omega), List.getElem?_replicate, if_pos h]
 ·rw [List.getElem?_eq_none (by rw [outS_len]; omega), List.getElem?_eq_none (by rw [List.length_replicate]; omega)]
theorem outS_set {n wn i : Nat} {R : Nat → Nat} (_hi : i < n) (q : Nat) : (outS n wn i R).set i (.slice (some ⟨q, 0, none⟩) wn wn) = outS n wn (i + 1) (fun a => if a = i then q else R a) := by
 apply List.ext_getElem?
 intro a
 rw [List.getElem?_set, outS_len]
 by_cases h : a < n
 ·by_cases e : i = a
  ·subst e
   rw [if_pos rfl, if_pos h, outS_at h, if_pos (by omega), if_pos rfl]
  ·rw [if_neg e, outS_at h, outS_at h]
   by_cases h2 : a < i
   ·rw [if_pos h2, if_pos (by omega), if_neg (by omega)]
   ·rw [if_neg h2, if_neg (by omega)]
 ·rw [List.getElem?_eq_none (l := outS n wn (i + 1) _) (by rw [outS_len]; omega)]
  by_cases e : i = a
  ·rw [if_pos e, if_neg (by omega)]
  ·rw [if_neg e, List.getElem?_eq_none (by rw [outS_len]; omega)]
theorem outS_full (n wn : Nat) (R : Nat → Nat) : outS n wn n R = (List.range n).map fun i => .slice (some ⟨R i, 0, none⟩) wn wn := by
 unfold outS
 apply List.map_congr_left
 intro a ha
 rw [if_pos (List.mem_range.1 ha)]
theorem made_wordsS (n : Nat) : (madeCells (Value.int .u64 0).cells (n * 1)).toList = wdS n 0 := by
 rw [Nat.mul_one]
 have e : (Value.int .u64 0).cells = #[.int .u64 0] := rfl
 rw [e]
 unfold wdS
 apply List.ext_getElem
 ·simp [madeCells]
 ·intro i h1 h2
  simp [madeCells, Nat.mod_one]
set_option maxHeartbeats 8000000 in
set_option maxRecDepth 100000 in
theorem landSets (lo gp np nt : Nat) (st sp : List Ed) (nv : Nat) (w : World) (hG : GMemE w lo gp np nt st sp) (hnp : np ≤ 2000000) (hnv : nv ≤ 1000000) :
  Calls Tryz.prog 92 #[.pointer (some ⟨gp, 0, none⟩), .int .i64 (nv : Nat)] w fun e w' => ∃ B R, e = .returned (.slice (some ⟨B, 0, none⟩) np np) ∧ Sets w' w.heap.size B R np ((nv + 63) / 64) (fun _ => 0) ∧ Below w.heap.size w w' := by
 have q63 : maxLen = 9223372036854775807 := rfl
 obtain ⟨sv, pv, hG⟩ := hG
 have c0 := hG.blk.cell 0 rfl
 obtain ⟨wn, hwn⟩ : ∃ wn, (nv + 63) / 64 = wn := ⟨_, rfl⟩
 have hwm : wn ≤ 20000 := by omega
 have ew : ((nv : Nat) : Int) + 64 - 1 = ((nv + 63 : Nat) : Int) := by omega
 have ew1 : ((nv : Nat) : Int) + 64 = ((nv + 64 : Nat) : Int) := by omega
 obtain ⟨i0, hi, hz0, hz1, hz2⟩ := info_parts infoWs
 obtain ⟨i1, hi1, hy0, hy1, hy2⟩ := info_parts infoU
 have b1 : i0.bytes * np ≤ 281474976710656 := by rw [hz2]; omega
 have b2 : i1.bytes * wn ≤ 281474976710656 := by rw [hy2]; omega
 have b3 : np ≤ maxLen := by omega
 have b4 : wn ≤ maxLen := by omega
 obtain ⟨n64, hn64⟩ : ∃ m, nv + 64 = m := ⟨_, rfl⟩
 obtain ⟨n63, hn63⟩ : ∃ m, nv + 63 = m := ⟨_, rfl⟩
 have a1 : ((nv : Nat) : Int) + 64 = ((n64 : Nat) : Int) := by omega
 have a2 : ((n64 : Nat) : Int) - 1 = ((n63 : Nat) : Int) := by omega
 have a3 : ((n63 : Nat) : Int) / 64 = ((wn : Nat) : Int) := by omega
 have a4 : ((n64 : Nat) : Int) ≤ 1000064 := by omega
 have a5 : (64 : Int) ≤ ((n64 : Nat) : Int) := by omega
 have a6 : ((n63 : Nat) : Int) ≤ 1000063 := by omega
 have a7 : ((nv : Nat) : Int) ≤ 1000000 := by omega
 rw [hwn]
 clear hG hwn ew ew1 hn64 hn63
 go_enter Tryz.func92, Tryz.ntmps92
 go_wp2_with (at_make; refine wpList_make_full _ rfl (.tmp 10) (.tmp 10) 103 rfl w.heap.size 107 i0 (.slice none 0 0) 1 Tryz.underlying103 hi hz0 hz1 .i64 .i64 _ _ np rfl rfl rfl rfl b1 b3 (Nat.le_refl _) ?_; intro w1 hmade hgr1; rw [made_slices] at hmade)
 have HM := Lib.hid hmade
 have HG := Lib.hid hgr1
 clear hmade hgr1 c0
 go_loopw [14] (fun v wr => ∃ (i : Nat) (R : Nat → Nat), v = .int .i64 (i : Nat) ∧ i ≤ np ∧ wr.ownsRow w.heap.size 107 1 (.slice (some ⟨w.heap.size, 0, none⟩) np np) np (outS np wn i R) ∧
  Hid (∀ a, a < i → wr.ownsRow w.heap.size 22 1 (.slice (some ⟨R a, 0, none⟩) wn wn) wn (wdS wn 0) ∧ R a ≠ w.heap.size ∧ ∀ b, b < i → R a = R b → a = b) ∧ Below w.heap.size w wr) (fun v _ => np - (intOf v).toNat)
 case atStart => exact ⟨0, fun _ => 0, rfl, Nat.zero_le _, by rw [outS_zero]; exact HM.out, Lib.hid (fun a ha => absurd ha (Nat.not_lt_zero _)), ⟨HG.out.os, HG.out.tape, HG.out.output, HG.out.size, fun k hk => HG.out.block k hk (by simp)⟩⟩
 case round =>
  obtain ⟨i, R, rfl, hin, hout, hrows, hB⟩ := hrel
  have HO := Lib.hid hout
  have HB := Lib.hid hB
  by_cases hlt : i < np
  ·have hwl := (hout.lt w.heap.size rfl).2
   clear hout hB
   go_wp2_with (at_make; refine wpList_make_full _ rfl (.tmp 22) (.tmp 22) 107 rfl w.heap.size 22 i1 (.int .u64 0) 1 Tryz.underlying107 hi1 hy0 hy1 .i64 .i64 _ _ wn rfl rfl rfl rfl b2 b4 HB.out.size ?_; intro w2 hmade hgr2; rw [made_wordsS] at hmade; have HO2 := Lib.hid (HO.out.kept hgr2 (.inr (by simp [Value.ownBlock]))); have c0 := HO2.out.cells (g := w.heap.size) rfl i _ (outS_at hlt); rw [if_neg (Nat.lt_irrefl i), Addr.add_lit, Nat.zero_add] at c0; have f0 := own_fz HO2.out i)
   have HM2 := Lib.hid hmade
   have HG2 := Lib.hid hgr2
   have HR := Lib.hid hrows
   clear hmade hgr2 c0 f0 hrows
   go_roundw
   case rel =>
    have hne : wr.heap.size ≠ w.heap.size := by omega
    refine ⟨i + 1, fun a => if a = i then wr.heap.size else R a, by simp, by omega, ?_, Lib.hid (fun a ha => ?_), ?_⟩
    ·have h1 := own_put (k := i) HO2.out (.slice (some ⟨wr.heap.size, 0, none⟩) wn wn)
     rw [outS_set hlt] at h1
     exact h1
    ·show (w2.setCell ⟨w.heap.size, i, none⟩ (.slice (some ⟨wr.heap.size, 0, none⟩) wn wn)).ownsRow w.heap.size 22 1 (.slice (some ⟨if a = i then wr.heap.size else R a, 0, none⟩) wn wn) wn (wdS wn 0) ∧ (if a = i then wr.heap.size else R a) ≠ w.heap.size ∧ ∀ b, b < i + 1 → (if a = i then wr.heap.size else R a) = (if b = i then wr.heap.size else R b) → a = b
     by_cases ea : a = i
     ·subst ea
      simp only [if_true]
      refine ⟨HM2.out.kept (grown_cell w2 ⟨w.heap.size, a, none⟩ _) (.inr (fun e => by injection e with e; exact hne e)), hne, fun b hb e => ?_⟩
      by_cases eb : b = a
      ·exact eb.symm
      ·exfalso
       rw [if_neg eb] at e
       have h9 : R b < wr.heap.size := ((HR.out b (by omega)).1.lt (R b) rfl).2
       omega
     ·have hai : a < i := by omega
      obtain ⟨r1, r2, r3⟩ := HR.out a hai
      simp only [if_neg ea]
      refine ⟨(r1.kept HG2.out (.inr (by simp [Value.ownBlock]))).kept (grown_cell w2 ⟨w.heap.size, i, none⟩ _) (.inr (fun e => by injection e with e; exact r2 e)), r2, fun b hb e => ?_⟩
      by_cases eb : b = i
      ·exfalso
       rw [if_pos eb] at e
       have h9 : R a < wr.heap.size := (r1.lt (R a) rfl).2
       omega
      ·rw [if_neg eb] at e
       exact r3 b (by omega) e
    ·have h1 : Below w.heap.size w w2 := ⟨HG2.out.os.trans HB.out.os, HG2.out.tape.trans HB.out.tape, HG2.out.output.trans HB.out.output, Nat.le_trans HB.out.size HG2.out.size, fun k hk => (HG2.out.block k (by have := HB.out.size; omega) (by simp)).trans (HB.out.block k hk)⟩
     exact h1.setCell (p := ⟨w.heap.size, i, none⟩) (Nat.le_refl _) _
   case measure => (show np - (i + 1) < np - i; omega)
  ·obtain rfl : i = np := by omega
   clear hout hB
   have HT := Lib.hid (show Sets wr w.heap.size w.heap.size R i wn (fun _ => 0) from ⟨by have h1 := HO.out; rw [outS_full] at h1; exact h1, fun a ha => (hrows.out a ha).1, fun a ha => (hrows.out a ha).2, fun _ _ => by decide⟩)
   go_wp2_with fail
   go_ret
   exact ⟨w.heap.size, R, rfl, HT.out, HB.out⟩
set_option maxRecDepth 100000 in
set_option maxHeartbeats 2000000 in
theorem landAdd (ra rb x y : Nat) (w : World) (ha : w.cell? ⟨ra, 0, none⟩ = some (.int .u64 ((x : Nat) : Int))) (hf : w.frozen? ⟨ra, 0, none⟩ = false) (hb : w.cell? ⟨rb, 0, none⟩ = some (.int .u64 ((y : Nat) : Int))) (hx : x < 18446744073709551616) (hy : y < 18446744073709551616) :
  Calls Tryz.prog 100 #[.slice (some ⟨ra, 0, none⟩) 1 1, .slice (some ⟨rb, 0, none⟩) 1 1] w fun e w' => e = .returned (.tuple #[]) ∧ w' = w.setCell ⟨ra, 0, none⟩ (.int .u64 ((x ||| y : Nat) : Int)) := by
 have ho := bits_or_u64_nat x y hx hy
 obtain ⟨z, hz⟩ : ∃ z, x ||| y = z := ⟨_, rfl⟩
 rw [hz] at ho ⊢
 clear hz
 go_enter Tryz.func100, Tryz.ntmps100
 go_wp2_with fail
 refine wp_loop_rounds 2 ?_
 rw [rounds_succ]
 go_wp2_with fail
 rw [rounds_succ]
 go_wp2_with fail
 go_end0
 exact ⟨rfl, rfl⟩
end Go.Proofs.YtdbgaccnejffpaaGreatDoor.Paths

namespace Go.Proofs.YtdbgaccnejffpaaGreatDoor.Sat
open Go.RowKit Go.Proofs.YtdbgaccnejffpaaGreatDoor.Ints Go.Proofs.YtdbgaccnejffpaaGreatDoor.Mem Go.Proofs.YtdbgaccnejffpaaGreatDoor.Src Go.Proofs.YtdbgaccnejffpaaGreatDoor.Paths Go.Proofs.YtdbgaccnejffpaaGreatDoor.Late Go.Proofs.YtdbgaccnejffpaaGreatDoor.Trace
theorem JS.under {J : Jd} {w0 W W' : World} {τ : List Value} {lo : Nat} (h : JS J w0 τ W) (hb : Below lo W W') (hgj : J.gj < lo) (hbt : J.bt < lo) : JS J w0 τ W' := by
 have h0 := h.bt0.1
 exact ⟨h.tr, h.nodes, h.lcap, h.mt, h.ml, h.hn, h.hl, h.low.trans (hb.mono (by omega)), h.blk.below hb hgj, Paths.own_same' h.row (fun q hq => by have hq : some J.bt = some q := hq; injection hq with hq; subst hq; exact hb.block _ hbt), h.hg, h.ne⟩
abbrev SN := Tree.SNd
def KR (w : World) (lo : Nat) (s : SN) : Prop := w.ownsRow lo 3 1 (.slice s.2.1 s.1.kids.length s.2.2) s.1.kids.length (s.1.kids.map (Value.int .i64))
def kbl (s : SN) : Option Nat := (Value.slice s.2.1 s.1.kids.length s.2.2).ownBlock
structure WM (W : World) (lo gw : Nat) (lv tv vv : Value) (σ : List SN) (ts : List Value) : Prop where
 blk : Blk W gw [lv, tv, vv]
 hg : lo ≤ gw
 hb : lo ≤ W.heap.size
 nodes : W.ownsRow lo 37 5 lv σ.length (Tree.rowS σ)
 tests : W.ownsRow lo 52 1 tv ts.length ts
 lg : lv.ownBlock ≠ some gw
 tg : tv.ownBlock ≠ some gw
 kids : ∀ s ∈ σ, KR W lo s
 kg : ∀ s ∈ σ, kbl s ≠ some gw
structure Fr (bt gw : Nat) (lv tv : Value) (W : World) (lv' tv' : Value) (W' : World) : Prop where
 os : W'.os = W.os
 tape : W'.tape = W.tape
 output : W'.output = W.output
 size : W.heap.size ≤ W'.heap.size
 block : ∀ q, q < W.heap.size → q ≠ bt → q ≠ gw → lv.ownBlock ≠ some q → tv.ownBlock ≠ some q → W'.heap[q]? = W.heap[q]?
 l : ∀ q, lv'.ownBlock = some q → lv.ownBlock = some q ∨ W.heap.size ≤ q
 t : ∀ q, tv'.ownBlock = some q → tv.ownBlock = some q ∨ W.heap.size ≤ q
theorem Fr.trans {bt gw : Nat} {lv tv lv1 tv1 lv2 tv2 : Value} {W W1 W2 : World} (h : Fr bt gw lv tv W lv1 tv1 W1) (h2 : Fr bt gw lv1 tv1 W1 lv2 tv2 W2) : Fr bt gw lv tv W lv2 tv2 W2 := by
 refine ⟨h2.os.trans h.os, h2.tape.trans h.tape, h2.output.trans h.output, Nat.le_trans h.size h2.size, fun q hq h1 h3 h4 h5 => ?_, fun q hq => ?_, fun q hq => ?_⟩
 ·refine (h2.block q (Nat.lt_of_lt_of_le hq h.size) h1 h3 (fun e => ?_) (fun e => ?_)).trans (h.block q hq h1 h3 h4 h5)
  ·exact (h.l q e).elim h4 (by omega)
  ·exact (h.t q e).elim h5 (by omega)
 ·rcases h2.l q hq with e | e
  ·exact h.l q e
  ·exact .inr (Nat.le_trans h.size e)
 ·rcases h2.t q hq with e | e
  ·exact h.t q e
  ·exact .inr (Nat.le_trans h.size e)
theorem Fr.of_below {bt gw : Nat} {lv tv : Value} {W W' : World} (h : Below W.heap.size W W') : Fr bt gw lv tv W lv tv W' := ⟨h.os, h.tape, h.output, h.size, fun q hq _ _ _ _ => h.block q hq, fun _ e => .inl e, fun _ e => .inl e⟩
theorem Fr.of_grown {bt gw : Nat} {lv tv : Value} {W W' : World} (h : W.grownBy W' (some bt)) : Fr bt gw lv tv W lv tv W' := ⟨h.os, h.tape, h.output, h.size, fun q hq hn _ _ _ => h.block q hq (fun e => hn (by injection e)), fun _ e => .inl e, fun _ e => .inl e⟩
theorem tne : (3 : TypeId) ≠ 37 ∧ (3 : TypeId) ≠ 52 ∧ (52 : TypeId) ≠ 37 := by decide
section
variable {W W' : World} {lo gw : Nat} {lv tv vv : Value} {σ : List SN} {ts : List Value}
theorem own_keep {w w' : World} {B : Nat} {e : TypeId} {size n : Nat} {v : Value} {xs : List Value} (h : w.ownsRow B e size v n xs) (hk : ∀ q, v.ownBlock = some q → w'.heap[q]? = w.heap[q]?) : w'.ownsRow B e size v n xs := Paths.own_same' h hk
theorem KR.keep {s : SN} (h : KR W lo s) (hk : ∀ q, kbl s = some q → W'.heap[q]? = W.heap[q]?) : KR W' lo s := own_keep h hk
theorem KR.lt {s : SN} (h : KR W lo s) {q : Nat} (hq : kbl s = some q) : lo ≤ q ∧ q < W.heap.size := World.ownsRow.lt h q hq
theorem WM.later (h : WM W lo gw lv tv vv σ ts) (hb : Below W.heap.size W W') : WM W' lo gw lv tv vv σ ts :=
 ⟨h.blk.later hb, h.hg, Nat.le_trans h.hb hb.size, below_row h.nodes hb, below_row h.tests hb, h.lg, h.tg, fun s hs => (h.kids s hs).keep (fun q hq => hb.block q ((h.kids s hs).lt hq).2), h.kg⟩
theorem WM.truth {bt : Nat} (h : WM W lo gw lv tv vv σ ts) (hg : W.grownBy W' (some bt)) (hbt : bt < lo) : WM W' lo gw lv tv vv σ ts := by
 have key : ∀ q, lo ≤ q → q < W.heap.size → W'.heap[q]? = W.heap[q]? := fun q h1 h2 => hg.block q h2 (fun e => by injection e with e; omega)
 have hgs := h.hg
 refine ⟨h.blk.grown hg (fun e => by injection e with e; omega), h.hg, Nat.le_trans h.hb hg.size, own_keep h.nodes (fun q hq => ?_), own_keep h.tests (fun q hq => ?_), h.lg, h.tg, fun s hs => (h.kids s hs).keep (fun q hq => ?_), h.kg⟩
 ·obtain ⟨a, b⟩ := World.ownsRow.lt h.nodes q hq; exact key q a b
 ·obtain ⟨a, b⟩ := World.ownsRow.lt h.tests q hq; exact key q a b
 ·obtain ⟨a, b⟩ := (h.kids s hs).lt hq; exact key q a b
theorem row_apart {lo1 lo2 n m k1 k2 : Nat} {t1 t2 : TypeId} {u v : Value} {xs ys : List Value} (h : W.ownsRow lo1 t1 k1 u n xs) (h2 : W.ownsRow lo2 t2 k2 v m ys) (hne : t1 ≠ t2) {q : Nat} (hq : u.ownBlock = some q) : v.ownBlock ≠ some q := fun e => by
 rcases h.2 with ⟨rfl, -⟩ | ⟨g, c, cur, rfl, -, hg, -⟩
 ·cases hq
 ·rcases h2.2 with ⟨rfl, -⟩ | ⟨g', c', cur', rfl, -, hg', -⟩
  ·cases e
  ·have e1 : some g = some q := hq
   have e2 : some g' = some q := e
   injection e1 with e1
   injection e2 with e2
   subst e1
   subst e2
   rw [hg] at hg'
   injection hg' with hg'
   injection hg' with _ hg' _
   exact hne hg'
theorem WM.node {w3 : World} {q cap n : Nat} (h : WM W lo gw lv tv vv σ ts) (s : SN) (hk : KR W lo s) (hkg : kbl s ≠ some gw) (hn : n = σ.length + 1) (hown : w3.ownsRow lo 37 5 (.slice (some ⟨q, 0, none⟩) n cap) n (Tree.rowS σ ++ Tree.cellsS s)) (hg : W.grownBy w3 lv.ownBlock) (hq : lv.ownBlock = some q ∨ q = W.heap.size) (bt : Nat) :
  WM (w3.setCell ⟨gw, 0, none⟩ (.slice (some ⟨q, 0, none⟩) n cap)) lo gw (.slice (some ⟨q, 0, none⟩) n cap) tv vv (σ ++ [s]) ts ∧ Fr bt gw lv tv W (.slice (some ⟨q, 0, none⟩) n cap) tv (w3.setCell ⟨gw, 0, none⟩ (.slice (some ⟨q, 0, none⟩) n cap)) ∧ Below lo W (w3.setCell ⟨gw, 0, none⟩ (.slice (some ⟨q, 0, none⟩) n cap)) := by
 subst hn
 have hqg : q ≠ gw := by
  rcases hq with hq | hq
  ·exact fun e => h.lg (by rw [hq, e])
  ·have := h.blk.1; omega
 have hgs := grown_cell w3 ⟨gw, 0, none⟩ (.slice (some ⟨q, 0, none⟩) (σ.length + 1) cap)
 have key : ∀ x, x < W.heap.size → lv.ownBlock ≠ some x → x ≠ gw → (w3.setCell ⟨gw, 0, none⟩ (.slice (some ⟨q, 0, none⟩) (σ.length + 1) cap)).heap[x]? = W.heap[x]? := fun x h1 h2 h3 =>
  (Below.heap_setCell _ _ _ _ h3).trans (hg.block x h1 (fun e => h2 e.symm))
 have kk : ∀ s', KR W lo s' → kbl s' ≠ some gw → KR (w3.setCell ⟨gw, 0, none⟩ (.slice (some ⟨q, 0, none⟩) (σ.length + 1) cap)) lo s' := fun s' h1 h2 => h1.keep (fun x hx => key x (h1.lt hx).2 (row_apart h1 h.nodes tne.1 hx) (fun e => h2 (e ▸ hx)))
 refine ⟨⟨(h.blk.grown hg (fun e => h.lg e.symm)).set 0 _ (by simp), h.hg, Nat.le_trans h.hb (Nat.le_trans hg.size hgs.size), ?_, own_keep h.tests (fun x hx => key x (World.ownsRow.lt h.tests x hx).2 (row_apart h.tests h.nodes tne.2.2 hx) (fun e => h.tg (e ▸ hx))), fun e => hqg (by injection e), h.tg, fun s' hs => ?_, fun s' hs => ?_⟩, ?_⟩
 ·rw [List.length_append, Tree.rowS_append, show Tree.rowS [s] = Tree.cellsS s by simp [Tree.rowS]]
  exact hown.kept hgs (.inr (fun e => hqg (by injection e)))
 ·rcases List.mem_append.1 hs with hs | hs
  ·exact kk s' (h.kids s' hs) (h.kg s' hs)
  ·rw [List.mem_singleton.1 hs]; exact kk s hk hkg
 ·rcases List.mem_append.1 hs with hs | hs
  ·exact h.kg s' hs
  ·rw [List.mem_singleton.1 hs]; exact hkg
 ·refine ⟨⟨hgs.os.trans hg.os, hgs.tape.trans hg.tape, hgs.output.trans hg.output, Nat.le_trans hg.size hgs.size, fun x h1 _ h3 h4 _ => key x h1 h4 h3, fun x hx => ?_, fun x hx => .inl hx⟩, hgs.os.trans hg.os, hgs.tape.trans hg.tape, hgs.output.trans hg.output, Nat.le_trans hg.size hgs.size, fun x h1 => key x (by have := h.hb; omega) (fun e => by have := (World.ownsRow.lt h.nodes x e).1; omega) (by have := h.hg; omega)⟩
  have hx : some q = some x := hx
  injection hx with hx
  subst hx
  exact hq.imp id fun e => by omega
theorem WM.test {w3 : World} {q cap n : Nat} (h : WM W lo gw lv tv vv σ ts) (u : Value) (hn : n = ts.length + 1) (hown : w3.ownsRow lo 52 1 (.slice (some ⟨q, 0, none⟩) n cap) n (ts ++ [u])) (hg : W.grownBy w3 tv.ownBlock) (hq : tv.ownBlock = some q ∨ q = W.heap.size) (bt : Nat) :
  WM (w3.setCell ⟨gw, 1, none⟩ (.slice (some ⟨q, 0, none⟩) n cap)) lo gw lv (.slice (some ⟨q, 0, none⟩) n cap) vv σ (ts ++ [u]) ∧ Fr bt gw lv tv W lv (.slice (some ⟨q, 0, none⟩) n cap) (w3.setCell ⟨gw, 1, none⟩ (.slice (some ⟨q, 0, none⟩) n cap)) ∧ Below lo W (w3.setCell ⟨gw, 1, none⟩ (.slice (some ⟨q, 0, none⟩) n cap)) := by
 subst hn
 have hqg : q ≠ gw := by
  rcases hq with hq | hq
  ·exact fun e => h.tg (by rw [hq, e])
  ·have := h.blk.1; omega
 have hgs := grown_cell w3 ⟨gw, 1, none⟩ (.slice (some ⟨q, 0, none⟩) (ts.length + 1) cap)
 have key : ∀ x, x < W.heap.size → tv.ownBlock ≠ some x → x ≠ gw → (w3.setCell ⟨gw, 1, none⟩ (.slice (some ⟨q, 0, none⟩) (ts.length + 1) cap)).heap[x]? = W.heap[x]? := fun x h1 h2 h3 =>
  (Below.heap_setCell _ _ _ _ h3).trans (hg.block x h1 (fun e => h2 e.symm))
 refine ⟨⟨(h.blk.grown hg (fun e => h.tg e.symm)).set 1 _ (by simp), h.hg, Nat.le_trans h.hb (Nat.le_trans hg.size hgs.size), own_keep h.nodes (fun x hx => key x (World.ownsRow.lt h.nodes x hx).2 (row_apart h.nodes h.tests tne.2.2.symm hx) (fun e => h.lg (e ▸ hx))), ?_, h.lg, fun e => hqg (by injection e), fun s' hs => ?_, h.kg⟩, ?_⟩
 ·rw [List.length_append]
  exact hown.kept hgs (.inr (fun e => hqg (by injection e)))
 ·exact (h.kids s' hs).keep (fun x hx => key x ((h.kids s' hs).lt hx).2 (row_apart (h.kids s' hs) h.tests tne.2.1 hx) (fun e => h.kg s' hs (e ▸ hx)))
 ·refine ⟨⟨hgs.os.trans hg.os, hgs.tape.trans hg.tape, hgs.output.trans hg.output, Nat.le_trans hg.size hgs.size, fun x h1 _ h3 _ h5 => key x h1 h5 h3, fun x hx => .inl hx, fun x hx => ?_⟩, hgs.os.trans hg.os, hgs.tape.trans hg.tape, hgs.output.trans hg.output, Nat.le_trans hg.size hgs.size, fun x h1 => key x (by have := h.hb; omega) (fun e => by have := (World.ownsRow.lt h.tests x e).1; omega) (by have := h.hg; omega)⟩
  have hx : some q = some x := hx
  injection hx with hx
  subst hx
  exact hq.imp id fun e => by omega
end
set_option maxHeartbeats 8000000 in
set_option maxRecDepth 100000 in
theorem landPut (bt lo gw : Nat) (lv tv vv : Value) (σ : List SN) (ts : List Value) (kd lo' hi' : Int) (nm : ByteArray) (ks : List Int) (K : Option Addr) (m c : Nat) (w : World) (h : WM w lo gw lv tv vv σ ts) (hm : ks.length = m) (hk : KR w lo (⟨kd, nm, lo', hi', ks⟩, K, c)) (hkg : kbl (⟨kd, nm, lo', hi', ks⟩, K, c) ≠ some gw) (hn : σ.length ≤ 1000000) :
  Calls Tryz.prog 89 #[.pointer (some ⟨gw, 0, none⟩), .agg #[.int .i64 kd, .string nm, .int .i64 lo', .int .i64 hi', .slice K m c]] w fun e w' => e = .returned (.int .i64 ((σ.length : Nat) : Int)) ∧ ∃ lv', WM w' lo gw lv' tv vv (σ ++ [(⟨kd, nm, lo', hi', ks⟩, K, c)]) ts ∧ Fr bt gw lv tv w lv' tv w' ∧ Below lo w w' := by
 obtain ⟨i1, hi1, hy0, hy1, hy2⟩ := info_parts Tree.infoNode
 obtain ⟨W, hW⟩ : ∃ W, w.alloc (.cells #[.int .i64 kd, .string nm, .int .i64 lo', .int .i64 hi', .slice K m c] 37) = W := ⟨_, rfl⟩
 have hbW : Below w.heap.size w W := by rw [← hW]; exact (Below.refl _ _).alloc (Nat.le_refl _) _
 have d0 : W.cell? ⟨w.heap.size, 0, none⟩ = some (.int .i64 kd) := by rw [← hW]; exact box_cell 0 _ rfl
 have d1 : W.cell? ⟨w.heap.size, 1, none⟩ = some (.string nm) := by rw [← hW]; exact box_cell 1 _ rfl
 have d2 : W.cell? ⟨w.heap.size, 2, none⟩ = some (.int .i64 lo') := by rw [← hW]; exact box_cell 2 _ rfl
 have d3 : W.cell? ⟨w.heap.size, 3, none⟩ = some (.int .i64 hi') := by rw [← hW]; exact box_cell 3 _ rfl
 have d4 : W.cell? ⟨w.heap.size, 4, none⟩ = some (.slice K m c) := by rw [← hW]; exact box_cell 4 _ rfl
 obtain ⟨V, hV⟩ : ∃ V, W.drew = V := ⟨_, rfl⟩
 have hbV : Below w.heap.size w V := by rw [← hV]; exact hbW.drew
 have hWV : Below W.heap.size W V := by rw [← hV]; exact (Below.refl _ _).drew
 have hal : Below V.heap.size V (V.alloc (.cells #[.int .i64 kd, .string nm, .int .i64 lo', .int .i64 hi', .slice K m c] 37)) := (Below.refl _ _).alloc (Nat.le_refl _) _
 have HMV := Lib.hid (h.later hbV)
 have HM := Lib.hid ((h.later hbV).later hal)
 have HFR := Lib.hid (Fr.of_below (bt := bt) (gw := gw) (lv := lv) (tv := tv) (hbV.trans (hal.mono hbV.size)))
 have HN := Lib.hid (heap_alloc_new V (.cells #[.int .i64 kd, .string nm, .int .i64 lo', .int .i64 hi', .slice K m c] 37))
 have HK := Lib.hid (show KR (V.alloc (.cells #[.int .i64 kd, .string nm, .int .i64 lo', .int .i64 hi', .slice K m c] 37)) lo (⟨kd, nm, lo', hi', ks⟩, K, c) from below_row hk (hbV.trans (hal.mono hbV.size)))
 have HLO := Lib.hid ((hbV.trans (hal.mono hbV.size)).mono h.hb)
 have HKG := Lib.hid hkg
 have HSZ := Lib.hid (show σ.length + 1 ≤ maxLen ∧ (σ.length + 1) * 64 ≤ 140737488355328 by have q : maxLen = 9223372036854775807 := rfl; omega)
 have HLN := Lib.hid hn
 have HM0 := Lib.hid hm
 have HSG := Lib.hid (show w.heap.size ≠ gw from by have := h.blk.1; omega)
 have HS0 := Lib.hid (show (V.cell? ⟨gw, 0, none⟩ = some lv ∧ V.cell? ⟨w.heap.size, 0, none⟩ = some (.int .i64 kd) ∧ V.cell? ⟨w.heap.size, 1, none⟩ = some (.string nm) ∧ V.cell? ⟨w.heap.size, 2, none⟩ = some (.int .i64 lo') ∧ V.cell? ⟨w.heap.size, 3, none⟩ = some (.int .i64 hi') ∧ V.cell? ⟨w.heap.size, 4, none⟩ = some (.slice K m c)) from
  ⟨HMV.out.blk.cell 0 rfl, below_cell hWV d0, below_cell hWV d1, below_cell hWV d2, below_cell hWV d3, below_cell hWV d4⟩)
 have HAL := Lib.hid hal
 have HNB := Lib.hid (show ∀ q, lv.ownBlock = some q → q ≠ w.heap.size from fun q hq => by have := (World.ownsRow.lt h.nodes q hq).2; omega)
 clear h hm hk hkg hn hbW hbV hWV hal d0 d1 d2 d3 d4
 go_enter Tryz.func89, Tryz.ntmps89
 go_wp2_with fail
 refine Late.drew [10] (S := fun V => V.cell? ⟨gw, 0, none⟩ = some lv ∧ V.cell? ⟨w.heap.size, 0, none⟩ = some (.int .i64 kd) ∧ V.cell? ⟨w.heap.size, 1, none⟩ = some (.string nm) ∧ V.cell? ⟨w.heap.size, 2, none⟩ = some (.int .i64 lo') ∧ V.cell? ⟨w.heap.size, 3, none⟩ = some (.int .i64 hi') ∧ V.cell? ⟨w.heap.size, 4, none⟩ = some (.slice K m c)) (by kernel_rfl) (by rw [hV]; exact HS0.out) (fun hHeld => ?_)
 rw [hV] at hHeld ⊢
 refine ltOp 0 hHeld ?_
 refine ltOp 1 hHeld ?_
 refine ltOp 2 hHeld ?_
 refine ltOp 3 hHeld ?_
 refine ltOp 4 hHeld ?_
 refine ltOp 5 hHeld ?_
 refine ltCall 6 (fun Kt hKt => ?_)
 go_simp
 refine hKt.out _ _ ?_ (fun hT => ?_)
 ·(exact ⟨HM.out.blk.cell 0 rfl, below_cell HAL.out HS0.out.2.1, below_cell HAL.out HS0.out.2.2.1, below_cell HAL.out HS0.out.2.2.2.1, below_cell HAL.out HS0.out.2.2.2.2.1, below_cell HAL.out HS0.out.2.2.2.2.2⟩)
 clear hKt Kt hHeld
 have hHeld := hT
 clear hT
 try simp only [Act.put, tkA, tkB, tkC]
 refine ltCall 7 (fun Kt hKt => ?_)
 (refine step_append_lies (w := V.alloc (.cells #[.int .i64 kd, .string nm, .int .i64 lo', .int .i64 hi', .slice K m c] 37)) rfl (.tmp 9) (.tmp 11) 30 rfl lo 37 i1 _ 5 64 Tryz.underlying30 hi1 hy0 hy1 hy2 rfl (by decide) lv σ.length _ (by rfl) HM.out.nodes ⟨V.heap.size, 0, none⟩ 1 1 [.int .i64 kd, .string nm, .int .i64 lo', .int .i64 hi', .slice K m c] (by rfl) rfl (World.news_of_block HN.out) (by intro u hu; simp only [List.mem_cons, List.not_mem_nil, or_false] at hu; rcases hu with rfl | rfl | rfl | rfl | rfl <;> rfl) (by decide) HSZ.out.1 HSZ.out.2 HM.out.hb _ rfl ?_; intro q cap w3 hown hgr hq hlt)
 refine hKt.out _ _ ?_ (fun hT => ?_)
 ·(exact ⟨(HM.out.blk.grown hgr (fun e => HM.out.lg e.symm)).cell 0 rfl, hgr.cell (below_cell HAL.out HS0.out.2.1) (fun e => HNB.out _ e.symm rfl), hgr.cell (below_cell HAL.out HS0.out.2.2.1) (fun e => HNB.out _ e.symm rfl), hgr.cell (below_cell HAL.out HS0.out.2.2.2.1) (fun e => HNB.out _ e.symm rfl), hgr.cell (below_cell HAL.out HS0.out.2.2.2.2.1) (fun e => HNB.out _ e.symm rfl), hgr.cell (below_cell HAL.out HS0.out.2.2.2.2.2) (fun e => HNB.out _ e.symm rfl)⟩)
 clear hKt Kt hHeld
 have hHeld := hT
 clear hT
 try simp only [Act.put, tkA, tkB, tkC]
 have k0 := (HM.out.blk.grown hgr (fun e => HM.out.lg e.symm)).cell 0 rfl
 have y0 := (HM.out.blk.grown hgr (fun e => HM.out.lg e.symm)).fz 0 rfl
 refine ltOp 8 hHeld ?_
 refine ltOp 9 hHeld ?_
 refine ltLast 10 (fun Kt hKt => ?_)
 go_simp
 refine hKt.out _ _ trivial (fun hT => ?_)
 clear hKt Kt hHeld
 have hHeld := hT
 clear hT
 try simp only [Act.put, tkA, tkB, tkC]
 refine wpAnyH_done (by kernel_rfl) ?_ _
 obtain ⟨hM, hF, hL⟩ := HM.out.node (⟨kd, nm, lo', hi', ks⟩, K, c) HK.out HKG.out rfl (by have h9 := hown; rw [← HM0.out] at h9; exact h9) hgr hq bt
 obtain ⟨W4, hW4⟩ : ∃ W4, w3.setCell ⟨gw, 0, none⟩ (.slice (some ⟨q, 0, none⟩) (σ.length + 1) cap) = W4 := ⟨_, rfl⟩
 rw [hW4] at hM hF hL ⊢
 have HM4 := Lib.hid hM
 have HL4 := Lib.hid (HLO.out.trans hL)
 have HF4 := Lib.hid (HFR.out.trans hF)
 obtain ⟨n, hn⟩ : ∃ n, σ.length = n := ⟨_, rfl⟩
 have hn1 : ((n : Nat) : Int) ≤ 1000000 := by have := HLN.out; omega
 have c0 := hM.blk.cell 0 rfl
 have HNL := Lib.hid hn
 rw [hn] at c0 ⊢
 clear hM hF hL hHeld hW4 k0 y0 hown hgr hq hlt hn HM HMV HN
 go_wp2_with fail
 go_ret
 exact ⟨by rw [HNL.out]; rfl, _, HM4.out, HF4.out, HL4.out⟩
end Go.Proofs.YtdbgaccnejffpaaGreatDoor.Sat
