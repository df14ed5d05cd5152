/-
  The landed some and all (stage 15): does a formula hold somewhere, everywhere, on stretches of points? By an AI agent.
  The landed each, sort.Search: any function value that is handed in (stage 15). By an AI agent.
  Intervals of time in plain arithmetic, and the walk of the reference's MaySpan. By an AI agent.
  Formulas and regular expressions as trees; what holds of them between two points of a trace (stage 15). By an AI agent.
  The walks of the reference's number and square (stage 14). By an AI agent.
  The walk of the reference's product (stage 14). By an AI agent.
  Lists of nodes in memory; what a list of nodes that came in reads as; spans compared by value; a slice from a place on. By an AI agent.
-/
import Derived.Test.YtdbgaccnejffpaaGreatDoorGSatDual1
import Derived.Test.YtdbgaccnejffpaaGreatDoorGSatDual2
import Derived.Test.YtdbgaccnejffpaaGreatDoorChecked
import Derived.WalkKit
import Derived.WalkSpells
import Derived.WalkLawsBesides
import Derived.Below
import Derived.Lib.Hide
import Derived.Lib.MinMax
import Derived.IntWalk
import Derived.Deep.Slices
import Derived.Deep.Fields
import Derived.ChangeSame
import Derived.ChangeArms
import Derived.ChangeSlices
import Derived.Laws.StructEq
import Derived.Deep.QuietTactic
import Derived.BigQuiet
namespace Go.Proofs.YtdbgaccnejffpaaGreatDoor.Sat
open Go.RowKit Go.Proofs.YtdbgaccnejffpaaGreatDoor.Ints Go.Proofs.YtdbgaccnejffpaaGreatDoor.Mem Go.Proofs.YtdbgaccnejffpaaGreatDoor.Src Go.Proofs.YtdbgaccnejffpaaGreatDoor.Paths Go.Proofs.YtdbgaccnejffpaaGreatDoor.Late
def RS (w : World) (b n : Nat) (s t : Nat → Nat) : Prop := ∀ j, j < n → w.cell? ⟨b, j * 2, none⟩ = some (.int .i64 ((s j : Nat) : Int)) ∧ w.cell? ⟨b, j * 2 + 1, none⟩ = some (.int .i64 ((t j : Nat) : Int))
theorem RS.below {w w' : World} {b n : Nat} {s t : Nat → Nat} (h : RS w b n s t) (hb : Below w.heap.size w w') : RS w' b n s t := fun j hj => ⟨below_cell hb (h j hj).1, below_cell hb (h j hj).2⟩
def someB (f : Nat → Bool) (s t : Nat → Nat) (i : Nat) : Bool := decide (cnt f (s i) < cnt f (t i))
theorem someB_iff (f : Nat → Bool) (s t : Nat → Nat) (i : Nat) : someB f s t i = true ↔ ∃ j, s i ≤ j ∧ j < t i ∧ f j = true := by
 unfold someB
 rw [decide_eq_true_eq, cnt_lt]
set_option maxHeartbeats 8000000 in
set_option maxRecDepth 100000 in
theorem landSome (b o n : Nat) (f : Nat → Bool) (s t : Nat → Nat) (w : World) (h : RB w b n f) (ho : RS w o n s t) (hs : ∀ j, j < n → s j ≤ n) (ht : ∀ j, j < n → t j ≤ n) (hn : n ≤ 1000) :
  Calls Tryz.prog 40 #[.slice (some ⟨b, 0, none⟩) n n, .slice (some ⟨o, 0, none⟩) n n] w (GotB w n (someB f s t)) := by
 have q63 : maxLen = 9223372036854775807 := rfl
 obtain ⟨i1, hi1, hy0, hy1, hy2⟩ := info_parts infoBl
 have b2 : i1.bytes * n ≤ 281474976710656 := by rw [hy2]; omega
 have b3 : n ≤ maxLen := by omega
 have H := Lib.hid ho
 obtain ⟨m, hm⟩ : ∃ m, n + 1 = m := ⟨_, rfl⟩
 have HC := landCounted b n f w h hn
 rw [hm] at HC
 have HC := Lib.hid HC
 have HS := Lib.hid (And.intro hs ht)
 have HMN := Lib.hid hm
 have hnm : n < m := by omega
 clear h ho hs ht hm
 go_enter Tryz.func40, Tryz.ntmps40
 go_wp2_with fail
 refine HC.out.mono ?_
 rintro e w0 ⟨g, rfl, hg, hb0⟩
 have HB0 := Lib.hid hb0
 have HI := Lib.hid hg
 clear hg hb0 HC
 go_wp2_with (at_make; refine wpList_make_full _ rfl (.tmp 12) (.tmp 12) 52 rfl w.heap.size 4 i1 (.bool false) 1 Tryz.underlying52 hi1 hy0 hy1 .i64 .i64 _ _ n rfl rfl rfl rfl b2 b3 HB0.out.size ?_; intro w1 hmade hgr1; rw [made_bools] at hmade)
 have HM := Lib.hid (show OB w1 w.heap.size w0.heap.size n (upTo 0 (someB f s t)) from by unfold OB; rw [bl_zero]; exact hmade)
 have HG1 := Lib.hid (show Below w0.heap.size w0 w1 from ⟨hgr1.os, hgr1.tape, hgr1.output, hgr1.size, fun k hk => hgr1.block k hk (by simp)⟩)
 have HI1 := Lib.hid (show OI w1 w.heap.size g m (cnt f) from below_row HI.out HG1.out)
 have HG := Lib.hid (HB0.out.trans (HG1.out.mono HB0.out.size))
 have HSZ := Lib.hid (show w.heap.size ≤ w0.heap.size ∧ g < w0.heap.size from ⟨HB0.out.size, (World.ownsRow.lt HI.out g rfl).2⟩)
 clear hmade hgr1
 obtain ⟨R, hR⟩ : ∃ R, w0.heap.size = R := ⟨_, rfl⟩
 rw [hR] at HM HSZ ⊢
 clear HI HB0 HG1 hR
 go_loopw [7, 16] (fun _ v wr => ∃ i : Nat, v = .int .i64 (i : Nat) ∧ i ≤ n ∧ OB wr w.heap.size R n (upTo i (someB f s t)) ∧ OI wr w.heap.size g m (cnt f) ∧ Below w.heap.size w wr) (fun _ v _ => n - (intOf v).toNat)
 case atStart => exact ⟨0, rfl, Nat.zero_le _, HM.out, HI1.out, HG.out⟩
 case round =>
  obtain ⟨i, rfl, hin, hO, hI, hB⟩ := hrel
  have HO := Lib.hid hO
  have HI := Lib.hid hI
  have HB := Lib.hid hB
  by_cases hlt : i < n
  ·obtain ⟨S, hS⟩ : ∃ S, s i = S := ⟨_, rfl⟩
   obtain ⟨T, hT⟩ : ∃ T, t i = T := ⟨_, rfl⟩
   obtain ⟨x1, x2⟩ := (H.out.below hB) i hlt
   rw [hS] at x1
   rw [hT] at x2
   have hSn : S ≤ n := by rw [← hS]; exact HS.out.1 i hlt
   have hTn : T ≤ n := by rw [← hT]; exact HS.out.2 i hlt
   obtain ⟨X, hX⟩ : ∃ X, cnt f S = X := ⟨_, rfl⟩
   obtain ⟨Y, hY⟩ : ∃ Y, cnt f T = Y := ⟨_, rfl⟩
   have c1 := hI.cell (j := S) (by omega)
   have c2 := hI.cell (j := T) (by omega)
   rw [hX] at c1
   rw [hY] at c2
   obtain ⟨W, hW⟩ : ∃ W, wr.alloc (.cells #[.int .i64 ((S : Nat) : Int), .int .i64 ((T : Nat) : Int)] 93) = W := ⟨_, rfl⟩
   have hbW : Below wr.heap.size wr W := by rw [← hW]; exact (Below.refl _ _).alloc (Nat.le_refl _) _
   have HOW := Lib.hid (hO.below hbW)
   have HIW := Lib.hid (show OI W w.heap.size g m (cnt f) from below_row hI hbW)
   have HBW := Lib.hid (hB.trans (hbW.mono hB.size))
   have d1 : W.cell? ⟨wr.heap.size, 0, none⟩ = some (.int .i64 ((S : Nat) : Int)) := by rw [← hW]; exact box_cell 0 _ rfl
   have d2 : W.cell? ⟨wr.heap.size, 1, none⟩ = some (.int .i64 ((T : Nat) : Int)) := by rw [← hW]; exact box_cell 1 _ rfl
   have e1 := below_cell hbW c1
   have e2 := below_cell hbW c2
   have f1 : W.cell? ⟨R, i, none⟩ = some (.bool (upTo i (someB f s t) i)) := (hO.below hbW).rb i hlt
   have f2 : W.frozen? ⟨R, i, none⟩ = false := own_fz (hO.below hbW) i
   have HX := Lib.hid (show decide (X < Y) = someB f s t i from by unfold someB; rw [hS, hT, hX, hY])
   have HXS := Lib.hid (And.intro hX hY)
   have hSi : ((S : Nat) : Int) ≤ ((n : Nat) : Int) := by omega
   have hTi : ((T : Nat) : Int) ≤ ((n : Nat) : Int) := by omega
   have hSi2 : ((S : Nat) : Int) < ((m : Nat) : Int) := by omega
   have hTi2 : ((T : Nat) : Int) < ((m : Nat) : Int) := by omega
   clear hO hI hB hS hT hX hY hbW
   go_wp2_with fail
   refine Late.drew [14] (S := fun V => V.cell? ⟨wr.heap.size, 0, none⟩ = some (.int .i64 ((S : Nat) : Int)) ∧ V.cell? ⟨wr.heap.size, 1, none⟩ = some (.int .i64 ((T : Nat) : Int)) ∧ V.cell? ⟨g, S, none⟩ = some (.int .i64 ((X : Nat) : Int)) ∧ V.cell? ⟨g, T, none⟩ = some (.int .i64 ((Y : Nat) : Int))) (by kernel_rfl) ⟨d1, d2, e1, e2⟩ (fun hHeld => ?_)
   refine ltOp 0 hHeld ?_
   refine ltOp 1 hHeld ?_
   refine ltOp 2 hHeld ?_
   refine ltOp 3 hHeld ?_
   refine ltOp 4 hHeld ?_
   refine ltOp 5 hHeld ?_
   refine ltOp 6 hHeld ?_
   refine ltOp 7 hHeld ?_
   refine ltOp 8 hHeld ?_
   refine ltOp 9 hHeld ?_
   refine ltOp 10 hHeld ?_
   refine ltOp 11 hHeld ?_
   refine ltOp 12 hHeld ?_
   refine ltOp 13 hHeld ?_
   refine ltLast 14 (fun Kt hKt => ?_)
   go_simp
   refine hKt.out _ _ trivial (fun hT => ?_)
   clear hKt Kt hHeld
   have hHeld := hT
   clear hT
   try simp only [Act.put, tkA, tkB, tkC]
   refine wpAnyH_done (by kernel_rfl) ?_ _
   clear hHeld
   go_wp2_with fail
   go_roundw
   case rel =>
    refine ⟨i + 1, by simp, by omega, ?_, ?_, (HBW.out.setCell (p := ⟨R, i, none⟩) HSZ.out.1 _).drew⟩
    ·have h1 := own_put (k := i) HOW.out (.bool (decide (X < Y)))
     rw [bl_set (someB f s t) hlt HX.out] at h1
     exact h1
    ·have h2 : OI (W.setCell ⟨R, i, none⟩ (.bool (decide (X < Y)))) w.heap.size g m (cnt f) := World.ownsRow.kept HIW.out (grown_cell W ⟨R, i, none⟩ _) (.inr (fun e => absurd (show g = R by injection e) (by have := HSZ.out.2; omega)))
     exact h2
   case measure => (show n - (i + 1) < n - i; omega)
  ·obtain rfl : i = n := by omega
   clear hO hB hI
   go_wp2_with fail
   go_ret
   refine ⟨R, rfl, ?_, HB.out⟩
   have h1 := HO.out
   unfold OB at h1
   rw [bl_full] at h1
   exact h1
def allB (f : Nat → Bool) (s t : Nat → Nat) (i : Nat) : Bool := !(someB (fun j => !(f j)) s t i)
theorem allB_iff (f : Nat → Bool) (s t : Nat → Nat) (i : Nat) : allB f s t i = true ↔ ∀ j, s i ≤ j → j < t i → f j = true := by
 unfold allB
 rw [Bool.not_eq_true', Bool.eq_false_iff, Ne, someB_iff]
 constructor
 ·intro h j h1 h2
  cases hf : f j with
  | true => rfl
  | false => exact absurd ⟨j, h1, h2, by rw [hf]; rfl⟩ h
 ·rintro h ⟨j, h1, h2, h3⟩
  rw [h j h1 h2] at h3
  cases h3
set_option maxHeartbeats 8000000 in
set_option maxRecDepth 100000 in
theorem landAllB (b o n : Nat) (f : Nat → Bool) (s t : Nat → Nat) (w : World) (h : RB w b n f) (ho : RS w o n s t) (hs : ∀ j, j < n → s j ≤ n) (ht : ∀ j, j < n → t j ≤ n) (hn : n ≤ 1000) :
  Calls Tryz.prog 42 #[.slice (some ⟨b, 0, none⟩) n n, .slice (some ⟨o, 0, none⟩) n n] w (GotB w n (allB f s t)) := by
 have HN := Lib.hid (landNot b n f w h hn)
 have HS := Lib.hid (fun b1 W (h1 : RB W b1 n (fun j => !(f j))) (hb : Below w.heap.size w W) => landSome b1 o n (fun j => !(f j)) s t W h1 (ho.below hb) hs ht hn)
 have HN2 := Lib.hid (fun b1 W (h1 : RB W b1 n (someB (fun j => !(f j)) s t)) => landNot b1 n _ W h1 hn)
 clear h ho hs ht
 go_enter Tryz.func42, Tryz.ntmps42
 go_wp2_with fail
 refine HN.out.mono ?_
 rintro e w1 ⟨b1, rfl, h1, hb1⟩
 have HB1 := Lib.hid hb1
 have HS1 := Lib.hid (HS.out b1 w1 h1.rb hb1)
 clear h1 hb1
 go_wp2_with fail
 refine HS1.out.mono ?_
 rintro e w2 ⟨b2, rfl, h2, hb2⟩
 have HB2 := Lib.hid (HB1.out.trans (hb2.mono HB1.out.size))
 have HN3 := Lib.hid (HN2.out b2 w2 h2.rb)
 clear h2 hb2
 go_wp2_with fail
 refine HN3.out.mono ?_
 rintro e w3 h3
 obtain ⟨b3, rfl, h4, h5⟩ := h3.after HB2.out
 have HX := Lib.hid (And.intro h4 h5)
 clear h3 h4 h5
 go_wp2_with fail
 go_ret
 exact ⟨b3, rfl, HX.out.1, HX.out.2⟩
end Go.Proofs.YtdbgaccnejffpaaGreatDoor.Sat

namespace Go.Proofs.YtdbgaccnejffpaaGreatDoor.Sat
open Go.RowKit Go.Proofs.YtdbgaccnejffpaaGreatDoor.Ints Go.Proofs.YtdbgaccnejffpaaGreatDoor.Mem Go.Proofs.YtdbgaccnejffpaaGreatDoor.Src Go.Proofs.YtdbgaccnejffpaaGreatDoor.Paths Go.Proofs.YtdbgaccnejffpaaGreatDoor.Late
set_option maxHeartbeats 8000000 in
set_option maxRecDepth 100000 in
theorem landEach (gj n ec g : Nat) (EA : Option Addr) (caps : Array Value) (P : Nat → Bool) (w : World) (hx : w.cell? ⟨gj, 1, none⟩ = some (.slice EA n ec)) (eg : ∀ args w, (callFunc g args).run Tryz.prog w = .ok (.enter g args) w)
  (hc : ∀ i, i < n → ∀ W, Below w.heap.size w W → Calls Tryz.prog g (#[.int .i64 ((i : Nat) : Int)] ++ caps) W fun e W' => e = .returned (.bool (P i)) ∧ Below W.heap.size W W') (hn : n ≤ 1000) :
  Calls Tryz.prog 32 #[.pointer (some ⟨gj, 0, none⟩), .func (.func g) #[] caps] w (GotB w n P) := by
 have q63 : maxLen = 9223372036854775807 := rfl
 obtain ⟨i1, hi1, hy0, hy1, hy2⟩ := info_parts infoBl
 have b2 : i1.bytes * n ≤ 281474976710656 := by rw [hy2]; omega
 have b3 : n ≤ maxLen := by omega
 have HC := Lib.hid hc
 clear hc
 go_enter Tryz.func32, Tryz.ntmps32
 go_wp2_with (at_make; refine wpList_make_full _ rfl (.tmp 11) (.tmp 11) 52 rfl w.heap.size 4 i1 (.bool false) 1 Tryz.underlying52 hi1 hy0 hy1 .i64 .i64 _ _ n rfl rfl rfl rfl b2 b3 (Nat.le_refl _) ?_; intro w1 hmade hgr1; rw [made_bools] at hmade)
 have HM := Lib.hid (show OB w1 w.heap.size w.heap.size n (upTo 0 P) from by unfold OB; rw [bl_zero]; exact hmade)
 have HG := Lib.hid (show Below w.heap.size w w1 from ⟨hgr1.os, hgr1.tape, hgr1.output, hgr1.size, fun k hk => hgr1.block k hk (by simp)⟩)
 clear hmade hgr1 hx
 go_loopw [6, 15] (fun _ v wr => ∃ i : Nat, v = .int .i64 (i : Nat) ∧ i ≤ n ∧ OB wr w.heap.size w.heap.size n (upTo i P) ∧ Below w.heap.size w wr) (fun _ v _ => n - (intOf v).toNat)
 case atStart => exact ⟨0, rfl, Nat.zero_le _, HM.out, HG.out⟩
 case round =>
  obtain ⟨i, rfl, hin, hO, hB⟩ := hrel
  have HO := Lib.hid hO
  have HB := Lib.hid hB
  by_cases hlt : i < n
  ·have HF := Lib.hid (HC.out i hlt wr hB)
   clear hO hB
   go_wp2_with (go_at_fn g; refine HF.out.mono ?_; rintro e w2 ⟨rfl, hb2⟩; have HO2 := Lib.hid (HO.out.below hb2); have c0 := HO2.out.rb i hlt; have f0 := own_fz HO2.out i; have HB2 := Lib.hid (HB.out.trans (hb2.mono HB.out.size)); clear hb2)
   go_roundw
   case rel =>
    refine ⟨i + 1, by simp, by omega, ?_, HB2.out.setCell (p := ⟨w.heap.size, i, none⟩) (Nat.le_refl _) _⟩
    have h1 := own_put (k := i) HO2.out (.bool (P i))
    rw [bl_set P hlt rfl] at h1
    exact h1
   case measure => (show n - (i + 1) < n - i; omega)
  ·obtain rfl : i = n := by omega
   clear hO hB
   go_wp2_with fail
   go_ret
   refine ⟨w.heap.size, rfl, ?_, HB.out⟩
   have h1 := HO.out
   unfold OB at h1
   rw [bl_full] at h1
   exact h1
theorem searchFn_mono {n : Nat} {P : Nat → Bool} (hm : ∀ a b, a ≤ b → b < n → P a = true → P b = true) {a b : Nat} (hab : a ≤ b) (hb : b < n) (h : P b = false) : P a = false := by
 cases ha : P a with
 | false => rfl
 | true => rw [hm a b hab hb ha] at h; cases h
set_option maxHeartbeats 8000000 in
set_option maxRecDepth 100000 in
theorem landSearch (n g : Nat) (caps : Array Value) (P : Nat → Bool) (w : World) (eg : ∀ args w, (callFunc g args).run Tryz.prog w = .ok (.enter g args) w)
  (hc : ∀ i, i < n → ∀ W, Below w.heap.size w W → Calls Tryz.prog g (#[.int .i64 ((i : Nat) : Int)] ++ caps) W fun e W' => e = .returned (.bool (P i)) ∧ Below W.heap.size W W') (hn : n ≤ 1000) (hm : ∀ a b, a ≤ b → b < n → P a = true → P b = true) :
  Calls Tryz.prog 63 #[.int .i64 ((n : Nat) : Int), .func (.func g) #[] caps] w fun e w' => ∃ p, e = .returned (.int .i64 (p : Nat)) ∧ p ≤ n ∧ (∀ j, j < p → P j = false) ∧ (∀ j, p ≤ j → j < n → P j = true) ∧ Below w.heap.size w w' := by
 have HC := Lib.hid hc
 have HM := Lib.hid hm
 have HB0 := Lib.hid (Below.refl w.heap.size w)
 clear hc hm
 go_enter Tryz.func63, Tryz.ntmps63
 go_wp2_with fail
 go_loopw [5, 6] (fun vi vj wr => ∃ i j : Nat, vi = .int .i64 (i : Nat) ∧ vj = .int .i64 (j : Nat) ∧ i ≤ j ∧ j ≤ n ∧ Hid (∀ m, m < i → P m = false) ∧ Hid (∀ m, j ≤ m → m < n → P m = true) ∧ Below w.heap.size w wr) (fun vi vj _ => (intOf vj).toNat - (intOf vi).toNat)
 case atStart => exact ⟨0, n, rfl, rfl, Nat.zero_le _, Nat.le_refl _, Lib.hid (fun m hm => absurd hm (Nat.not_lt_zero _)), Lib.hid (fun m hm h2 => by omega), HB0.out⟩
 case round =>
  obtain ⟨i, j, rfl, rfl, hij, hjn, hlo, hhi, hB⟩ := hrel
  have HB := Lib.hid hB
  by_cases hlt : i < j
  ·obtain ⟨q, hq⟩ : ∃ q, (i + j) / 2 = q := ⟨_, rfl⟩
   have hh : ((i : Int) + (j : Int)) / 2 = (q : Int) := by omega
   have hqi : i ≤ q := by omega
   have hqj : q < j := by omega
   have FC := HC.out q (by omega) wr hB
   clear hq hB
   cases hP : P q
   ·rw [hP] at FC
    have HFC := Lib.hid FC
    have HP := Lib.hid hP
    clear FC hP
    go_wp2_with (go_at_fn g; refine HFC.out.mono ?_; rintro e w1 ⟨rfl, hb1⟩; have HB1 := Lib.hid (HB.out.trans (hb1.mono HB.out.size)); clear hb1)
    go_roundw
    case rel => exact ⟨q + 1, j, by simp, rfl, by omega, hjn, Lib.hid (fun m h1 => searchFn_mono HM.out (show m ≤ q by omega) (by omega) HP.out), hhi, HB1.out⟩
    case measure => (show j - (q + 1) < j - i; omega)
   ·rw [hP] at FC
    have HFC := Lib.hid FC
    have HP := Lib.hid hP
    clear FC hP
    go_wp2_with (go_at_fn g; refine HFC.out.mono ?_; rintro e w1 ⟨rfl, hb1⟩; have HB1 := Lib.hid (HB.out.trans (hb1.mono HB.out.size)); clear hb1)
    go_roundw
    case rel => exact ⟨i, q, rfl, rfl, hqi, by omega, hlo, Lib.hid (fun m h1 h2 => HM.out q m h1 h2 HP.out), HB1.out⟩
    case measure => (show q - i < j - i; omega)
  ·obtain rfl : i = j := by omega
   clear hB
   go_wp2_with fail
   go_ret
   exact ⟨i, rfl, hjn, hlo.out, hhi.out, HB.out⟩
end Go.Proofs.YtdbgaccnejffpaaGreatDoor.Sat

namespace Go.Proofs.YtdbgaccnejffpaaGreatDoor.Ival
open Go.RowKit
def mayS (lo hi : Int) : Bool := decide (0 ≤ lo ∧ lo ≤ 9999 ∧ (hi = -1 ∨ (lo ≤ hi ∧ hi ≤ 9999)))
def hasS (lo hi : Int) (d : Nat) : Bool := mayS lo hi && decide (lo ≤ d ∧ (hi = -1 ∨ (d : Int) ≤ hi))
def wideS (lo hi : Int) : Int := if mayS lo hi = true then (if hi = -1 then lo + 1 else hi + 1) else 0
def classS (lo hi : Int) (d : Nat) : Int := if mayS lo hi = true then (if hi = -1 then min (d : Int) lo else if hi < (d : Int) then -1 else d) else -1
abbrev span (lo hi : Int) : Value := .agg #[.int .i64 lo, .int .i64 hi]
theorem may_parts {lo hi : Int} (h : mayS lo hi = true) : 0 ≤ lo ∧ lo ≤ 9999 ∧ (hi = -1 ∨ (lo ≤ hi ∧ hi ≤ 9999)) := of_decide_eq_true h
theorem box0 {w w' : World} {x y : Value} {T : TypeId} (hb : Below (w.alloc (.cells #[x, y] T)).heap.size (w.alloc (.cells #[x, y] T)) w') : w'.cell? ⟨w.heap.size, 0, none⟩ = some x := by
 have h : (w.alloc (.cells #[x, y] T)).cell? ⟨w.heap.size, 0, none⟩ = some x := by rw [cell_of_row _ w.heap.size 0 _ T (0, 0) (heap_alloc_new w _)]; rfl
 exact (hb.cell (World.block_lt_of_cell? _ _ h)).trans h
theorem box1 {w w' : World} {x y : Value} {T : TypeId} (hb : Below (w.alloc (.cells #[x, y] T)).heap.size (w.alloc (.cells #[x, y] T)) w') : w'.cell? ⟨w.heap.size, 1, none⟩ = some y := by
 have h : (w.alloc (.cells #[x, y] T)).cell? ⟨w.heap.size, 1, none⟩ = some y := by rw [cell_of_row _ w.heap.size 1 _ T (0, 0) (heap_alloc_new w _)]; rfl
 exact (hb.cell (World.block_lt_of_cell? _ _ h)).trans h
theorem keep_cell {w w' : World} {p : Addr} {u : Value} (hb : Below w.heap.size w w') (h : w.cell? p = some u) : w'.cell? p = some u := (hb.cell (World.block_lt_of_cell? w p h)).trans h
theorem may_cases (lo hi : Int) : lo < 0 ∧ mayS lo hi = false ∨ (0 ≤ lo ∧ 9999 < lo ∧ mayS lo hi = false) ∨ (0 ≤ lo ∧ lo ≤ 9999 ∧ hi = -1 ∧ mayS lo hi = true) ∨
  (0 ≤ lo ∧ lo ≤ 9999 ∧ (hi == -1) = false ∧ hi < lo ∧ mayS lo hi = false) ∨ (0 ≤ lo ∧ lo ≤ 9999 ∧ (hi == -1) = false ∧ lo ≤ hi ∧ decide (hi ≤ 9999) = false ∧ mayS lo hi = false) ∨
  (0 ≤ lo ∧ lo ≤ 9999 ∧ (hi == -1) = false ∧ lo ≤ hi ∧ hi ≤ 9999 ∧ mayS lo hi = true) := by
 unfold mayS
 simp only [beq_eq_false_iff_ne, ne_eq, decide_eq_false_iff_not, decide_eq_true_iff]
 omega
theorem may_ways (lo hi : Int) : mayS lo hi = false ∨ (mayS lo hi = true ∧ hi = -1 ∧ 0 ≤ lo ∧ lo ≤ 9999) ∨ (mayS lo hi = true ∧ (hi == -1) = false ∧ ¬ hi = -1 ∧ 0 ≤ lo ∧ lo ≤ hi ∧ hi ≤ 9999) := by
 unfold mayS
 simp only [beq_eq_false_iff_ne, ne_eq, decide_eq_false_iff_not, decide_eq_true_iff]
 omega
end Go.Proofs.YtdbgaccnejffpaaGreatDoor.Ival

namespace Go.Proofs.YtdbgaccnejffpaaGreatDoor.Sat
open Go.Proofs.YtdbgaccnejffpaaGreatDoor.Paths
structure Tm where
 n : Nat
 tm : Nat → Nat
 pr : List UInt8 → Nat → Prop
inductive Fo where
 | z (k : Int) (s : List UInt8)
 | o (k lo hi : Int) (a : Fo)
 | t (k lo hi : Int) (a b : Fo)
def Tm.near (T : Tm) (lo hi : Int) (i j : Nat) : Prop := Ival.hasS lo hi (T.tm j - T.tm i) = true
def leafP (T : Tm) (k : Int) (s : List UInt8) (i : Nat) : Prop := k = 1 ∨ (k = 3 ∧ T.pr s i)
def oneP (T : Tm) (k lo hi : Int) (A : Nat → Nat → Prop) (i : Nat) : Prop :=
 if k = 4 then ¬ A i i
 else if k = 8 then 0 < i ∧ T.near lo hi (i - 1) i ∧ A (i - 1) (i - 1)
 else if k = 9 then i + 1 < T.n ∧ T.near lo hi i (i + 1) ∧ A (i + 1) (i + 1)
 else if k = 10 then ∃ j, j ≤ i ∧ T.near lo hi j i ∧ A j j
 else if k = 11 then ∀ j, j ≤ i → T.near lo hi j i → A j j
 else if k = 12 then ∃ j, i ≤ j ∧ j < T.n ∧ T.near lo hi i j ∧ A j j
 else if k = 13 then ∀ j, i ≤ j → j < T.n → T.near lo hi i j → A j j
 else if k = 16 then ∃ j, j ≤ i ∧ T.near lo hi j i ∧ A j i
 else if k = 17 then ∃ j, i ≤ j ∧ j < T.n ∧ T.near lo hi i j ∧ A i j
 else A i i
def twoP (T : Tm) (k lo hi : Int) (A B : Nat → Nat → Prop) (i : Nat) : Prop :=
 if k = 5 then A i i ∧ B i i
 else if k = 6 then A i i ∨ B i i
 else if k = 7 then (A i i → B i i)
 else if k = 14 then ∃ j, j ≤ i ∧ T.near lo hi j i ∧ B j j ∧ ∀ q, j < q → q ≤ i → A q q
 else if k = 15 then ∃ j, i ≤ j ∧ j < T.n ∧ T.near lo hi i j ∧ B j j ∧ ∀ q, i ≤ q → q < j → A q q
 else False
def sem (T : Tm) : Fo → Nat → Nat → Prop
 | .z k s, i, j => if k = 18 then j = i + 1 ∧ j < T.n else j = i ∧ i < T.n ∧ leafP T k s i
 | .o k lo hi a, i, j => if k = 22 then i < T.n ∧ Chain (sem T a) i j else j = i ∧ i < T.n ∧ oneP T k lo hi (sem T a) i
 | .t k lo hi a b, i, j =>
  if k = 20 then sem T a i j ∨ sem T b i j
  else if k = 21 then ∃ m, sem T a i m ∧ sem T b m j
  else j = i ∧ i < T.n ∧ twoP T k lo hi (sem T a) (sem T b) i
end Go.Proofs.YtdbgaccnejffpaaGreatDoor.Sat

namespace Go.Proofs.YtdbgaccnejffpaaGreatDoor.Paths
open Go.RowKit Go.Proofs.YtdbgaccnejffpaaGreatDoor.Ints Go.Proofs.YtdbgaccnejffpaaGreatDoor.Mem Go.Proofs.YtdbgaccnejffpaaGreatDoor.Src
def numT (zs : List Int) (x : Int) : Int := if zs.findIdx (· == x) < zs.length then ((zs.findIdx (· == x) : Nat) : Int) else -1
theorem num_at {zs : List Int} {x : Int} {i : Nat} (hi : i < zs.length) (h : zs[i]?.getD 0 = x) (hb : ∀ m, m < i → zs[m]?.getD 0 ≠ x) : numT zs x = (i : Nat) := by
 have e : zs.findIdx (· == x) = i := by
  rw [List.findIdx_eq hi]
  refine ⟨?_, fun j hj => ?_⟩
  ·rw [List.getElem?_eq_getElem hi] at h
   exact beq_iff_eq.2 h
  ·have := hb j hj
   rw [List.getElem?_eq_getElem (by omega)] at this
   exact Bool.eq_false_iff.2 (fun e => this (beq_iff_eq.1 e))
 unfold numT
 rw [e, if_pos hi]
end Go.Proofs.YtdbgaccnejffpaaGreatDoor.Paths

namespace Go.Proofs.YtdbgaccnejffpaaGreatDoor.Paths
open Go.RowKit Go.Proofs.YtdbgaccnejffpaaGreatDoor.Ints Go.Proofs.YtdbgaccnejffpaaGreatDoor.Mem Go.Proofs.YtdbgaccnejffpaaGreatDoor.Src
end Go.Proofs.YtdbgaccnejffpaaGreatDoor.Paths

/- Lists of nodes in memory; what a list of nodes that came in reads as. By an AI agent. -/
namespace Go.Proofs.YtdbgaccnejffpaaGreatDoor.Tree
open Go.RowKit Go.ChangeShapes Go.WideShapes Go.Deep Go.Proofs.YtdbgaccnejffpaaGreatDoor.Ints
structure Nd where
 kind : Int
 name : ByteArray
 lo : Int
 hi : Int
 kids : List Int
def small64 (x : Int) : Prop := -9223372036854775808 ≤ x ∧ x ≤ 9223372036854775807
def Any : Nat → Prop := fun _ => True
def NodeAt (S : Nat → Prop) (w : World) (b o : Nat) (n : Nd) : Prop :=
 w.cell? ⟨b, o, none⟩ = some (.int .i64 n.kind) ∧ w.cell? ⟨b, o + 1, none⟩ = some (.string n.name) ∧ w.cell? ⟨b, o + 2, none⟩ = some (.int .i64 n.lo) ∧ w.cell? ⟨b, o + 3, none⟩ = some (.int .i64 n.hi) ∧
  small64 n.kind ∧ small64 n.lo ∧ small64 n.hi ∧ n.name.size ≤ maxLen ∧
  ∃ (K : Option Addr) (c : Nat), w.cell? ⟨b, o + 4, none⟩ = some (.slice K n.kids.length c) ∧ Rd .i64 w K n.kids.length n.kids ∧ n.kids.length ≤ c ∧ c ≤ maxLen ∧ S b ∧ (∀ a, K = some a → 0 < n.kids.length → S a.block)
theorem NodeAt.keep {S : Nat → Prop} {w w' : World} {b o : Nat} {n : Nd} (h : NodeAt S w b o n) (hk : ∀ p u, S p.block → w.cell? p = some u → w'.cell? p = some u) : NodeAt S w' b o n := by
 obtain ⟨h1, h2, h3, h4, h5, h6, h7, h8, K, c, h9, h10, h11, h12, h13, h14⟩ := h
 refine ⟨hk _ _ h13 h1, hk _ _ h13 h2, hk _ _ h13 h3, hk _ _ h13 h4, h5, h6, h7, h8, K, c, hk _ _ h13 h9, ⟨h10.1, h10.2.1, fun h0 => ?_⟩, h11, h12, h13, h14⟩
 obtain ⟨b', off, e, hc⟩ := h10.2.2 h0
 exact ⟨b', off, e, fun j hj => hk ⟨b', off + j, none⟩ _ (h14 ⟨b', off, none⟩ e h0) (hc j hj)⟩
theorem NodeAt.mono {S S' : Nat → Prop} {w : World} {b o : Nat} {n : Nd} (h : NodeAt S w b o n) (hs : ∀ b, b < w.heap.size → S b → S' b) : NodeAt S' w b o n := by
 obtain ⟨h1, h2, h3, h4, h5, h6, h7, h8, K, c, h9, h10, h11, h12, h13, h14⟩ := h
 refine ⟨h1, h2, h3, h4, h5, h6, h7, h8, K, c, h9, h10, h11, h12, hs _ (World.block_lt_of_cell? w _ h1) h13, fun a e h0 => ?_⟩
 obtain ⟨b', off, e', hc⟩ := h10.2.2 h0
 subst e
 injection e' with e'
 subst e'
 exact hs _ (World.block_lt_of_cell? w _ (hc 0 h0)) (h14 _ rfl h0)
def Nodes (S : Nat → Prop) (w : World) (A : Option Addr) (l : List Nd) : Prop :=
 0 < l.length → ∃ b off, A = some ⟨b, off, none⟩ ∧ ∀ (j : Nat) (n : Nd), l[j]? = some n → NodeAt S w b (off + 5 * j) n
theorem Nodes.keep {S : Nat → Prop} {w w' : World} {A : Option Addr} {l : List Nd} (h : Nodes S w A l) (hk : ∀ p u, S p.block → w.cell? p = some u → w'.cell? p = some u) : Nodes S w' A l := fun h0 => by
 obtain ⟨b, off, h1, h2⟩ := h h0
 exact ⟨b, off, h1, fun j n hn => (h2 j n hn).keep hk⟩
theorem Nodes.mono {S S' : Nat → Prop} {w : World} {A : Option Addr} {l : List Nd} (h : Nodes S w A l) (hs : ∀ b, b < w.heap.size → S b → S' b) : Nodes S' w A l := fun h0 => by
 obtain ⟨b, off, h1, h2⟩ := h h0
 exact ⟨b, off, h1, fun j n hn => (h2 j n hn).mono hs⟩
theorem Nodes.any {S : Nat → Prop} {w : World} {A : Option Addr} {l : List Nd} (h : Nodes S w A l) : Nodes Any w A l := h.mono fun _ _ _ => trivial
theorem Nodes.below {S : Nat → Prop} {w w' : World} {A : Option Addr} {l : List Nd} (h : Nodes S w A l) (hb : Below w.heap.size w w') : Nodes S w' A l :=
 h.keep fun p _ _ hp => (hb.cell (World.block_lt_of_cell? w p hp)).trans hp
theorem Nodes.nil (S : Nat → Prop) (w : World) (A : Option Addr) : Nodes S w A [] := fun h => by simp at h
theorem structSpan : Tryz.prog.underlying 33 = some (.struct (Tryz.prog.fieldsOf 33)) := by kernel_rfl
theorem cellsInt : Tryz.prog.cellsOf 3 = 1 := by kernel_rfl
theorem one_of {cs : List Value} {o : Nat} {v : Value} (h : (cs.drop o).take 1 = [v]) : cs[o]? = some v := by
 have h1 := congrArg (·[0]?) h
 simpa using h1
section
variable {H : Type} {enc : TypeId × Value → H} {w : World}
def NodeOk (w : World) (n : Nd) (K : Option Addr) (c : Nat) : Prop :=
 small64 n.kind ∧ small64 n.lo ∧ small64 n.hi ∧ n.name.size ≤ maxLen ∧ Rd .i64 w K n.kids.length n.kids ∧ n.kids.length ≤ c ∧ c ≤ maxLen
end
end Go.Proofs.YtdbgaccnejffpaaGreatDoor.Tree
/- Spans compared by value; a slice from a place on. By an AI agent. -/
namespace Go.Proofs.YtdbgaccnejffpaaGreatDoor.Tree
open Go.RowKit Go.Proofs.YtdbgaccnejffpaaGreatDoor.Ints
theorem fieldsSpan3 : (Tryz.prog.fieldsOf 33).toList.map (fun f => (f.name, f.type, f.offset)) = [("Lo", 3, 0), ("Hi", 3, 1)] := by kernel_rfl
theorem stoodSpan : Tryz.prog.stoodInHeld 33 = false := by kernel_rfl
theorem guardSpan : Tryz.prog.eqGuardType Tryz.prog.depth 33 = false := by kernel_rfl
theorem part_int {P : Program} (w : World) (t : TypeId) (cs : Array Value) (o : Nat) (v : Value) {k : IntKind} (ht : P.underlying t = some (.int k)) (hv : cs[o]? = some v) : (part t cs o).run P w = .ok v w := by
 simp [part, isAgg, run_underlying ht, hv]
set_option maxRecDepth 100000 in
theorem span_equal (a b c d : Int) (w : World) : (Op.equalIn 10000 33 (.agg #[.int .i64 a, .int .i64 b]) (.agg #[.int .i64 c, .int .i64 d])).run Tryz.prog w = .ok (decide (a = c ∧ b = d)) w := by
 rw [run_equalIn_struct w _ _ _ _ structSpan stoodSpan]
 generalize hfs : (Tryz.prog.fieldsOf 33).toList = fs
 have h := fieldsSpan3
 rw [hfs] at h
 match fs, h with
 | [f0, f1], h =>
  simp only [List.map_cons, List.map_nil, List.cons.injEq, Prod.mk.injEq, and_true] at h
  obtain ⟨⟨n0, t0, o0⟩, n1, t1, o1⟩ := h
  have q0 : ∀ (W : World) (x y : Value), (part 3 #[x, y] 0).run Tryz.prog W = .ok x W := fun W x y => part_int W _ _ 0 x Tryz.underlying3 rfl
  have q1 : ∀ (W : World) (x y : Value), (part 3 #[x, y] 1).run Tryz.prog W = .ok y W := fun W x y => part_int W _ _ 1 y Tryz.underlying3 rfl
  have e0 : ∀ (W : World) (x y : Int), (Op.equalIn 9999 3 (.int .i64 x) (.int .i64 y)).run Tryz.prog W = .ok (x == y) W := fun W x y => run_equalIn_int W 9998 _ .i64 .i64 x y Tryz.underlying3
  have hk : ∀ x y : Int, (x == y) = decide (x = y) := fun x y => by
   rw [Bool.eq_iff_iff, beq_iff_eq, decide_eq_true_iff]
  have hfin : decide (a = c ∧ b = d) = (decide (a = c) && decide (b = d)) := Bool.decide_and _ _
  rw [hfin]
  simp only [Op.eqFields, n0, t0, o0, n1, t1, o1, q0, q1, e0, hk, Sem.run_bind, Result.andThen_ok, ne_eq, String.reduceEq, not_false_eq_true, if_true, Sem.run_ite, Sem.run_pure]
  generalize decide (a = c) = b0
  generalize decide (b = d) = b1
  cases b0 <;> cases b1 <;> rfl
set_option maxRecDepth 100000 in
theorem span_eql (a b c d : Int) (w : World) : (binOp .eql 33 (.agg #[.int .i64 a, .int .i64 b]) (.agg #[.int .i64 c, .int .i64 d])).run Tryz.prog w = .ok (.bool (decide (a = c ∧ b = d))) w := by
 rw [run_eql_struct, span_equal]
 rfl
def fromAddr (A : Option Addr) (cap k size : Nat) : Option Addr := if cap = k then A else A.map (·.add (k * size))
set_option maxRecDepth 100000 in
theorem slice_from {P : Program} (t : TypeId) (ht : P.underlying t = some (.slice (P.elem t))) (size : Nat) (hs : (P.info? (P.elem t)).map (·.size) = some size) (A : Option Addr) (n cap k : Nat) (hk : k ≤ n) (W : World) :
  (Instr.slice t (.slice A n cap) (some (.int .i64 (k : Int))) none none).run P W = .ok (.slice (fromAddr A cap k size) (n - k) (cap - k)) W := by
 rw [run_slice_l W t A n cap ht .i64 (k : Int) (by omega) (by omega)]
 obtain ⟨i, hi, hz⟩ := Option.map_eq_some_iff.1 hs
 simp [sizeOf, typeInfo, hi, hz, Result.andThen, sliced, fromAddr]
theorem Rd.from {k : IntKind} {w : World} {A : Option Addr} {n cap j : Nat} {zs : List Int} (h : Rd k w A n zs) (hn : n ≤ cap) (hj : j ≤ n) : Rd k w (fromAddr A cap j 1) (n - j) (zs.drop j) := by
 unfold fromAddr
 by_cases hc : cap = j
 ·rw [if_pos hc]
  have e : n - j = 0 := by omega
  have e2 : zs.drop j = [] := List.drop_eq_nil_of_le (by rw [h.len]; omega)
  rw [e, e2]
  exact Rd.nil _ _ _
 ·rw [if_neg hc, Nat.mul_one]
  by_cases h0 : n = 0
  ·have e : n - j = 0 := by omega
   have e2 : zs.drop j = [] := List.drop_eq_nil_of_le (by rw [h.len]; omega)
   rw [e, e2]
   exact Rd.nil _ _ _
  ·obtain ⟨b, off, rfl, -⟩ := h.cell (by omega)
   have := h.drop hj
   have e : (⟨b, off, none⟩ : Addr).add j = ⟨b, off + j, none⟩ := by unfold Addr.add; split <;> simp_all
   rw [Option.map_some, e]
   exact this
theorem fcell {W w1 : World} (hb : Below W.heap.size W w1) : (∀ b o, b < W.heap.size → w1.cell? ⟨b, o, none⟩ = W.cell? ⟨b, o, none⟩) ∧ (∀ b o, b < W.heap.size → w1.frozen? ⟨b, o, none⟩ = W.frozen? ⟨b, o, none⟩) :=
 ⟨fun b o h => hb.cell (p := ⟨b, o, none⟩) h, fun b o h => hb.frozen (p := ⟨b, o, none⟩) h⟩
theorem below_cell {w w' : World} {b o : Nat} {u : Value} (hb : Below w.heap.size w w') (h : w.cell? ⟨b, o, none⟩ = some u) : w'.cell? ⟨b, o, none⟩ = some u :=
 (hb.cell (World.block_lt_of_cell? w _ h)).trans h
theorem box_cell {w : World} {cs : Array Value} {T : TypeId} (o : Nat) (u : Value) (h : cs[o]? = some u) : (w.alloc (.cells cs T)).cell? ⟨w.heap.size, o, none⟩ = some u := by
 rw [cell_of_row _ w.heap.size o _ T (0, 0) (heap_alloc_new w _)]
 exact h
theorem below_row {w w' : World} {base : Nat} {e : TypeId} {size : Nat} {v : Value} {n : Nat} {xs : List Value} (h : w.ownsRow base e size v n xs) (hb : Below w.heap.size w w') : w'.ownsRow base e size v n xs :=
 h.kept (row := none) ⟨hb.os, hb.tape, hb.output, hb.size, fun i hi _ => hb.block i hi⟩ (by cases v.ownBlock <;> simp)
theorem below_drewN {B : Nat} {a w : World} (h : Below B a w) (n : Nat) : Below B a (w.drewN n) := ⟨h.os, h.tape, h.output, h.size, h.block⟩
end Go.Proofs.YtdbgaccnejffpaaGreatDoor.Tree
