/-
  The reference's holds: since (stage 15). By an AI agent. (Written by wip/tools/genholds15.py.)
  The reference's holds: until (stage 15). By an AI agent. (Written by wip/tools/genholds15.py.)
-/
import Derived.Test.YtdbgaccnejffpaaGreatGSatTells29
import Derived.Test.YtdbgaccnejffpaaGreatGSatTells1
import Derived.Test.YtdbgaccnejffpaaGreatGSatTells30
namespace Go.Proofs.YtdbgaccnejffpaaGreat.Sat
open Go.RowKit Go.Proofs.YtdbgaccnejffpaaGreat.Ints Go.Proofs.YtdbgaccnejffpaaGreat.Mem Go.Proofs.YtdbgaccnejffpaaGreat.Src Go.Proofs.YtdbgaccnejffpaaGreat.Paths Go.Proofs.YtdbgaccnejffpaaGreat.Late Go.Proofs.YtdbgaccnejffpaaGreat.Trace
set_option maxHeartbeats 8000000 in
set_option maxRecDepth 100000 in
theorem holds_14 {NA : Option Addr} {nn nc : Nat} {EA : Option Addr} {ne ec : Nat} {t : Tr} {w : World} (h : TrOk Any w NA nn nc EA ne ec t) (_hn : ne ≤ 64) (nm : ByteArray) (lo hi : Int) (K : Option Addr) (m cK : Nat) {i : Nat} (hi0 : i < ne) (b1 b2 : Nat) (a b : Nat → Bool) (hA : RB w b1 ne a) (hB : RB w b2 ne b) :
  Calls Tryz.prog 65 #[.agg #[.slice NA nn nc, .slice EA ne ec], .agg #[.int .i64 14, .string nm, .int .i64 lo, .int .i64 hi, .slice K m cK], .int .i64 ((i : Nat) : Int), .int .i64 ((ne : Nat) : Int), .slice (some ⟨b1, 0, none⟩) ne ne, .slice (some ⟨b2, 0, none⟩) ne ne] w (GotHv w (hvR (tmOf t) 14 (holdsT t ((i : Nat) : Int) nm.data.toList) lo hi i ne a b)) := by
 have hv : hvR (tmOf t) 14 (holdsT t ((i : Nat) : Int) nm.data.toList) lo hi i ne a b = exU (okP (tmOf t) lo hi i) (fun j => rnA a (b j) (j + 1) (i - j)) ne := by rfl
 rw [hv]
 clear hv
 obtain ⟨ok, hok⟩ : ∃ f, okP (tmOf t) lo hi i = f := ⟨_, rfl⟩
 have HOK := Lib.hid (fun j => congrFun hok j)
 rw [hok]
 clear hok
 obtain ⟨fn, hfn⟩ : ∃ f, (fun j => rnA a (b j) (j + 1) (i - j)) = f := ⟨_, rfl⟩
 have HFN := Lib.hid (fun j => congrFun hfn j)
 rw [hfn]
 clear hfn
 obtain ⟨W1, h1⟩ : ∃ W1, w.alloc (.cells #[.slice NA nn nc, .slice EA ne ec] 25) = W1 := ⟨_, rfl⟩
 obtain ⟨W2, h2⟩ : ∃ W2, W1.alloc (.cells #[.int .i64 14, .string nm, .int .i64 lo, .int .i64 hi, .slice K m cK] 47) = W2 := ⟨_, rfl⟩
 obtain ⟨hb, s1, d, e⟩ := two_boxes h1 h2
 have d0 := d 0 _ rfl
 have d1 := d 1 _ rfl
 have e0 := e 0 _ rfl
 have e1 := e 1 _ rfl
 have e2 := e 2 _ rfl
 have e3 := e 3 _ rfl
 have HB := Lib.hid hb
 have HT := Lib.hid (h.below hb)
 have hii : ((i : Nat) : Int) < ((ne : Nat) : Int) := by omega
 have HhA := Lib.hid (hA.below hb)
 have HhB := Lib.hid (hB.below hb)
 clear h hb d e hA hB
 have HW2 := Lib.hid (Below.refl W2.heap.size W2)
 have HDE := Lib.hid (And.intro d0 (And.intro d1 (And.intro e0 (And.intro e2 e3))))
 go_enter Tryz.func65, Tryz.ntmps65
 go_wp2_with fail
 go_loopw [13, 14, 15, 16, 17, 18, 19, 20, 123] (fun z1 z2 _ _ _ _ _ _ v wr => ∃ j : Nat, v = .int .i64 ((j : Nat) : Int) ∧ j ≤ ne ∧ z1 = .bool (exU ok fn j) ∧ z2 = .bool true ∧ Below W2.heap.size W2 wr) (fun _ _ _ _ _ _ _ _ v _ => ne - (intOf v).toNat)
 case atStart => exact ⟨0, rfl, Nat.zero_le _, rfl, rfl, HW2.out⟩
 case round =>
  obtain ⟨j, rfl, hjn, rfl, rfl, hB⟩ := hrel
  obtain ⟨sm, hsm⟩ : ∃ x, exU ok fn j = x := ⟨_, rfl⟩
  have HSM := Lib.hid hsm
  rw [hsm]
  have HWR := Lib.hid hB
  have f0 := below_cell hB HDE.out.1
  have f1 := below_cell hB HDE.out.2.1
  have g0 := below_cell hB HDE.out.2.2.1
  have g2 := below_cell hB HDE.out.2.2.2.1
  have g3 := below_cell hB HDE.out.2.2.2.2
  clear hsm d0 d1 e0 e1 e2 e3
  by_cases hlt : j < ne
  ·have hjl : ((j : Nat) : Int) < ((ne : Nat) : Int) := by omega
   have x1 := (HhA.out.below hB) j hlt
   have x2 := (HhB.out.below hB) j hlt
   have HK := Lib.hid (HOK.out j)
   clear hB
   by_cases hji : j ≤ i
   ·have hc1 : decide (((j : Nat) : Int) > ((i : Nat) : Int)) = false := decide_eq_false (by omega)
    have hc2 : decide (((i : Nat) : Int) < ((j : Nat) : Int)) = false := decide_eq_false (by omega)
    have hc3 : decide (i < j) = false := decide_eq_false (by omega)
    obtain ⟨z, hz⟩ : ∃ z, Ival.hasS lo hi (apN (tmOf t) i j) = z := ⟨_, rfl⟩
    have HOJ := Lib.hid (show ok j = z from by rw [← HK.out]; unfold okP; rw [decide_eq_true hji, hz]; rfl)
    have HZ := Lib.hid hz
    have HJI := Lib.hid hji
    clear hz hji
    go_wp2_with fail
    refine wp_region_held_drew (S := fun V => (V.cell? ⟨w.heap.size, 0, none⟩ = some (.slice NA nn nc) ∧ V.cell? ⟨w.heap.size, 1, none⟩ = some (.slice EA ne ec) ∧ V.cell? ⟨w.heap.size + 1, 2, none⟩ = some (.int .i64 lo) ∧ V.cell? ⟨w.heap.size + 1, 3, none⟩ = some (.int .i64 hi)) ∧ Below wr.heap.size wr V) (by kernel_rfl) ⟨⟨f0, f1, g2, g3⟩, (Below.refl _ _).drew⟩ (fun hHeld => ?_)
    refine tkOp 0 hHeld ?_
    refine tkOp 1 hHeld ?_
    refine tkOp 2 hHeld ?_
    refine tkOp 3 hHeld ?_
    refine tkOp 4 hHeld ?_
    refine tkOp 5 hHeld ?_
    refine tkOp 6 hHeld ?_
    refine tkOp 7 hHeld ?_
    refine tkOp 8 hHeld ?_
    refine tkOp 9 hHeld ?_
    refine tkSkips [10, 11, 12] 12 hHeld ?_
    simp only [Skips.skipAct, Skips.skipListed, List.getElem?_toArray, List.getElem?_cons_succ, List.getElem?_cons_zero, Act.put, List.setIfInBounds_toArray, List.set_cons_zero, List.set_cons_succ]
    refine tkOp 13 hHeld ?_
    refine tkOp 14 hHeld ?_
    refine tkOp 15 hHeld ?_
    refine tkOp 16 hHeld ?_
    refine tkOp 17 hHeld ?_
    refine tkOp 18 hHeld ?_
    refine tkOp 19 hHeld ?_
    refine tkOp 20 hHeld ?_
    refine tkCall 21 (fun Kt hKt => ?_)
    go_simp
    (go_at_call 64; refine (refApart (HT.out.below (HWR.out.trans (hHeld.2.mono HWR.out.size))) hi0 hlt).mono ?_; rintro e w6 ⟨rfl, hb6⟩; have hB6 := hHeld.2.trans (hb6.mono hHeld.2.size))
    refine hKt.out _ _ ?_ (fun hT => ?_)
    ·(exact ⟨⟨below_cell hb6 hHeld.1.1, below_cell hb6 hHeld.1.2.1, below_cell hb6 hHeld.1.2.2.1, below_cell hb6 hHeld.1.2.2.2⟩, hB6⟩)
    clear hKt Kt hHeld
    have hHeld := hT
    clear hT
    try simp only [Act.put, tkA, tkB, tkC]
    refine tkCall 22 (fun Kt hKt => ?_)
    go_simp
    (go_at_call 63; refine (Ival.refHas lo hi (apN (tmOf t) i j) _ (ap_lt HT.out hi0 hlt)).mono ?_; rintro e w7 ⟨rfl, hb7⟩; have hB7 := hHeld.2.trans (hb7.mono hHeld.2.size))
    refine hKt.out _ _ ?_ (fun hT => ?_)
    ·(exact ⟨⟨below_cell hb7 hHeld.1.1, below_cell hb7 hHeld.1.2.1, below_cell hb7 hHeld.1.2.2.1, below_cell hb7 hHeld.1.2.2.2⟩, hB7⟩)
    clear hKt Kt hHeld
    have hHeld := hT
    clear hT
    try simp only [Act.put, tkA, tkB, tkC]
    refine tkOp 23 hHeld ?_
    refine tkOp 24 hHeld ?_
    refine wpAnyH_done (by kernel_rfl) ?_ _
    have HB7 := Lib.hid (HWR.out.trans (hHeld.2.mono HWR.out.size))
    have y0 := below_cell (HB7.out) HDE.out.2.2.1
    have y1 := (HhA.out.below HB7.out) j hlt
    have y2 := (HhB.out.below HB7.out) j hlt
    rw [HZ.out]
    clear hHeld hb6 hb7 hB6 hB7 f0 f1 g0 g2 g3 x1 x2
    cases z
    ·go_wp2_with fail
     go_roundw
     case rel => exact ⟨j + 1, by simp, by omega, by unfold exU; rw [HSM.out, HOJ.out]; simp, (by first | rfl | trivial), HB7.out⟩
     case measure => (show ne - (j + 1) < ne - j; omega)
    ·obtain ⟨V, hV⟩ : ∃ V, w7 = V := ⟨_, rfl⟩
     rw [hV] at y0 y1 y2 HB7 ⊢
     have HAV := Lib.hid (HhA.out.below HB7.out)
     have HFJ := Lib.hid (HFN.out j)
     clear hV y1
     go_wp2_with fail
     go_loopw [17, 18] (fun z3 u V2 => ∃ q : Nat, u = .int .i64 ((j + 1 + q : Nat) : Int) ∧ q ≤ i - j ∧ z3 = .bool (rnA a (b j) (j + 1) q) ∧ V2 = V) (fun _ u _ => ne + 1 - (intOf u).toNat)
     case atStart => exact ⟨0, by simp, Nat.zero_le _, rfl, rfl⟩
     case round =>
      obtain ⟨q, rfl, hq, rfl, rfl⟩ := hrel
      obtain ⟨ov, hov⟩ : ∃ x, rnA a (b j) (j + 1) q = x := ⟨_, rfl⟩
      have HOV := Lib.hid hov
      obtain ⟨k, hk⟩ : ∃ k, j + 1 + q = k := ⟨_, rfl⟩
      have HK2 := Lib.hid hk
      have HJ2 := HJI.out
      rw [hov, hk]
      by_cases hki : (k : Nat) ≤ i
      ·have hkk : ((k : Nat) : Int) ≤ ((i : Nat) : Int) := by omega
       have c1 := HAV.out k (by omega)
       have hkn : ((k : Nat) : Int) < ((ne : Nat) : Int) := by omega
       obtain ⟨p, hp⟩ : ∃ p, a k = p := ⟨_, rfl⟩
       have HP := Lib.hid hp
       rw [hp] at c1
       clear hov hk hp HJ2
       cases ov
       all_goals
        go_wp2_with fail
        go_roundw
        case rel => exact ⟨q + 1, by have := HK2.out; simp; omega, by have := HK2.out; have := HJI.out; omega, by unfold rnA; rw [HOV.out, HK2.out, HP.out]; simp, (by first | rfl | trivial)⟩
        case measure => (show ne + 1 - (k + 1) < ne + 1 - k; omega)
      ·have hkk : ¬ (((k : Nat) : Int) ≤ ((i : Nat) : Int)) := by omega
       have HRN := Lib.hid (show fn j = ov from by rw [← HFJ.out, ← hov]; show rnA a (b j) (j + 1) (i - j) = _; rw [show i - j = q by omega])
       clear hov hk HJ2 hki
       cases sm
       all_goals
        go_wp2_with fail
        go_roundw
        case rel => exact ⟨j + 1, by simp, by omega, by unfold exU; rw [HSM.out, HOJ.out, HRN.out]; simp, (by first | rfl | trivial), HB7.out⟩
        case measure => (show ne - (j + 1) < ne - j; omega)
   ·have hc1 : decide (((j : Nat) : Int) > ((i : Nat) : Int)) = true := decide_eq_true (by omega)
    have hc2 : decide (((i : Nat) : Int) < ((j : Nat) : Int)) = true := decide_eq_true (by omega)
    have hc3 : decide (i < j) = true := decide_eq_true (by omega)
    have HOJ := Lib.hid (show ok j = false from by rw [← HK.out]; unfold okP; rw [decide_eq_false hji]; rfl)
    clear hji
    go_wp2_with fail
    refine wp_region_held_drew (S := fun _ => True) (by kernel_rfl) trivial (fun hHeld => ?_)
    refine tkOp 0 hHeld ?_
    refine tkOp 1 hHeld ?_
    refine tkOp 2 hHeld ?_
    refine tkOp 3 hHeld ?_
    refine tkOp 4 hHeld ?_
    refine tkOp 5 hHeld ?_
    refine tkOp 6 hHeld ?_
    refine tkSkips [7, 8, 9, 10, 11, 12, 13] 11 hHeld ?_
    simp only [Skips.skipAct, Skips.skipListed, List.getElem?_toArray, List.getElem?_cons_succ, List.getElem?_cons_zero, Act.put, List.setIfInBounds_toArray, List.set_cons_zero, List.set_cons_succ]
    refine tkOp 14 hHeld ?_
    refine tkOp 15 hHeld ?_
    refine tkSkips [16, 17, 18, 19, 20, 21, 22, 23] 1 hHeld ?_
    simp only [Skips.skipAct, Skips.skipListed, List.getElem?_toArray, List.getElem?_cons_succ, List.getElem?_cons_zero, Act.put, List.setIfInBounds_toArray, List.set_cons_zero, List.set_cons_succ]
    refine tkOp 24 hHeld ?_
    refine wpAnyH_done (by kernel_rfl) ?_ _
    clear hHeld
    go_wp2_with fail
    go_roundw
    case rel => exact ⟨j + 1, by simp, by omega, by unfold exU; rw [HSM.out, HOJ.out]; simp, (by first | rfl | trivial), HWR.out.drew⟩
    case measure => (show ne - (j + 1) < ne - j; omega)
  ·obtain rfl : j = ne := by omega
   have HX := Lib.hid (HB.out.trans (HWR.out.mono HB.out.size))
   clear hB
   go_wp2_with fail
   go_ret
   exact ⟨by rw [HSM.out]; rfl, HX.out⟩
end Go.Proofs.YtdbgaccnejffpaaGreat.Sat

namespace Go.Proofs.YtdbgaccnejffpaaGreat.Sat
open Go.RowKit Go.Proofs.YtdbgaccnejffpaaGreat.Ints Go.Proofs.YtdbgaccnejffpaaGreat.Mem Go.Proofs.YtdbgaccnejffpaaGreat.Src Go.Proofs.YtdbgaccnejffpaaGreat.Paths Go.Proofs.YtdbgaccnejffpaaGreat.Late Go.Proofs.YtdbgaccnejffpaaGreat.Trace
set_option maxHeartbeats 8000000 in
set_option maxRecDepth 100000 in
theorem holds_15 {NA : Option Addr} {nn nc : Nat} {EA : Option Addr} {ne ec : Nat} {t : Tr} {w : World} (h : TrOk Any w NA nn nc EA ne ec t) (_hn : ne ≤ 64) (nm : ByteArray) (lo hi : Int) (K : Option Addr) (m cK : Nat) {i : Nat} (hi0 : i < ne) (b1 b2 : Nat) (a b : Nat → Bool) (hA : RB w b1 ne a) (hB : RB w b2 ne b) :
  Calls Tryz.prog 65 #[.agg #[.slice NA nn nc, .slice EA ne ec], .agg #[.int .i64 15, .string nm, .int .i64 lo, .int .i64 hi, .slice K m cK], .int .i64 ((i : Nat) : Int), .int .i64 ((ne : Nat) : Int), .slice (some ⟨b1, 0, none⟩) ne ne, .slice (some ⟨b2, 0, none⟩) ne ne] w (GotHv w (hvR (tmOf t) 15 (holdsT t ((i : Nat) : Int) nm.data.toList) lo hi i ne a b)) := by
 have hv : hvR (tmOf t) 15 (holdsT t ((i : Nat) : Int) nm.data.toList) lo hi i ne a b = exU (okF (tmOf t) lo hi i) (fun j => rnA a (b j) i (j - i)) ne := by rfl
 rw [hv]
 clear hv
 obtain ⟨ok, hok⟩ : ∃ f, okF (tmOf t) lo hi i = f := ⟨_, rfl⟩
 have HOK := Lib.hid (fun j => congrFun hok j)
 rw [hok]
 clear hok
 obtain ⟨fn, hfn⟩ : ∃ f, (fun j => rnA a (b j) i (j - i)) = f := ⟨_, rfl⟩
 have HFN := Lib.hid (fun j => congrFun hfn j)
 rw [hfn]
 clear hfn
 obtain ⟨W1, h1⟩ : ∃ W1, w.alloc (.cells #[.slice NA nn nc, .slice EA ne ec] 25) = W1 := ⟨_, rfl⟩
 obtain ⟨W2, h2⟩ : ∃ W2, W1.alloc (.cells #[.int .i64 15, .string nm, .int .i64 lo, .int .i64 hi, .slice K m cK] 47) = W2 := ⟨_, rfl⟩
 obtain ⟨hb, s1, d, e⟩ := two_boxes h1 h2
 have d0 := d 0 _ rfl
 have d1 := d 1 _ rfl
 have e0 := e 0 _ rfl
 have e1 := e 1 _ rfl
 have e2 := e 2 _ rfl
 have e3 := e 3 _ rfl
 have HB := Lib.hid hb
 have HT := Lib.hid (h.below hb)
 have hii : ((i : Nat) : Int) < ((ne : Nat) : Int) := by omega
 have HhA := Lib.hid (hA.below hb)
 have HhB := Lib.hid (hB.below hb)
 clear h hb d e hA hB
 have HW2 := Lib.hid (Below.refl W2.heap.size W2)
 have HDE := Lib.hid (And.intro d0 (And.intro d1 (And.intro e0 (And.intro e2 e3))))
 go_enter Tryz.func65, Tryz.ntmps65
 go_wp2_with fail
 go_loopw [13, 14, 15, 16, 17, 18, 19, 20, 123] (fun z1 z2 _ _ _ _ _ _ v wr => ∃ j : Nat, v = .int .i64 ((j : Nat) : Int) ∧ j ≤ ne ∧ z1 = .bool (exU ok fn j) ∧ z2 = .bool true ∧ Below W2.heap.size W2 wr) (fun _ _ _ _ _ _ _ _ v _ => ne - (intOf v).toNat)
 case atStart => exact ⟨0, rfl, Nat.zero_le _, rfl, rfl, HW2.out⟩
 case round =>
  obtain ⟨j, rfl, hjn, rfl, rfl, hB⟩ := hrel
  obtain ⟨sm, hsm⟩ : ∃ x, exU ok fn j = x := ⟨_, rfl⟩
  have HSM := Lib.hid hsm
  rw [hsm]
  have HWR := Lib.hid hB
  have f0 := below_cell hB HDE.out.1
  have f1 := below_cell hB HDE.out.2.1
  have g0 := below_cell hB HDE.out.2.2.1
  have g2 := below_cell hB HDE.out.2.2.2.1
  have g3 := below_cell hB HDE.out.2.2.2.2
  clear hsm d0 d1 e0 e1 e2 e3
  by_cases hlt : j < ne
  ·have hjl : ((j : Nat) : Int) < ((ne : Nat) : Int) := by omega
   have x1 := (HhA.out.below hB) j hlt
   have x2 := (HhB.out.below hB) j hlt
   have HK := Lib.hid (HOK.out j)
   clear hB
   by_cases hji : i ≤ j
   ·have hc2 : decide (((j : Nat) : Int) < ((i : Nat) : Int)) = false := decide_eq_false (by omega)
    have hc3 : decide (j < i) = false := decide_eq_false (by omega)
    obtain ⟨z, hz⟩ : ∃ z, Ival.hasS lo hi (apN (tmOf t) i j) = z := ⟨_, rfl⟩
    have HOJ := Lib.hid (show ok j = z from by rw [← HK.out]; unfold okF; rw [decide_eq_true hji, hz]; rfl)
    have HZ := Lib.hid hz
    have HJI := Lib.hid hji
    clear hz hji
    go_wp2_with fail
    refine wp_region_held_drew (S := fun V => (V.cell? ⟨w.heap.size, 0, none⟩ = some (.slice NA nn nc) ∧ V.cell? ⟨w.heap.size, 1, none⟩ = some (.slice EA ne ec) ∧ V.cell? ⟨w.heap.size + 1, 2, none⟩ = some (.int .i64 lo) ∧ V.cell? ⟨w.heap.size + 1, 3, none⟩ = some (.int .i64 hi)) ∧ Below wr.heap.size wr V) (by kernel_rfl) ⟨⟨f0, f1, g2, g3⟩, (Below.refl _ _).drew⟩ (fun hHeld => ?_)
    refine tkOp 0 hHeld ?_
    refine tkOp 1 hHeld ?_
    refine tkSkips [2, 3, 4] 20 hHeld ?_
    simp only [Skips.skipAct, Skips.skipListed, List.getElem?_toArray, List.getElem?_cons_succ, List.getElem?_cons_zero, Act.put, List.setIfInBounds_toArray, List.set_cons_zero, List.set_cons_succ]
    refine tkOp 5 hHeld ?_
    refine tkOp 6 hHeld ?_
    refine tkOp 7 hHeld ?_
    refine tkOp 8 hHeld ?_
    refine tkOp 9 hHeld ?_
    refine tkOp 10 hHeld ?_
    refine tkOp 11 hHeld ?_
    refine tkOp 12 hHeld ?_
    refine tkOp 13 hHeld ?_
    refine tkOp 14 hHeld ?_
    refine tkOp 15 hHeld ?_
    refine tkOp 16 hHeld ?_
    refine tkOp 17 hHeld ?_
    refine tkOp 18 hHeld ?_
    refine tkOp 19 hHeld ?_
    refine tkOp 20 hHeld ?_
    refine tkCall 21 (fun Kt hKt => ?_)
    go_simp
    (go_at_call 64; refine (refApart (HT.out.below (HWR.out.trans (hHeld.2.mono HWR.out.size))) hi0 hlt).mono ?_; rintro e w6 ⟨rfl, hb6⟩; have hB6 := hHeld.2.trans (hb6.mono hHeld.2.size))
    refine hKt.out _ _ ?_ (fun hT => ?_)
    ·(exact ⟨⟨below_cell hb6 hHeld.1.1, below_cell hb6 hHeld.1.2.1, below_cell hb6 hHeld.1.2.2.1, below_cell hb6 hHeld.1.2.2.2⟩, hB6⟩)
    clear hKt Kt hHeld
    have hHeld := hT
    clear hT
    try simp only [Act.put, tkA, tkB, tkC]
    refine tkCall 22 (fun Kt hKt => ?_)
    go_simp
    (go_at_call 63; refine (Ival.refHas lo hi (apN (tmOf t) i j) _ (ap_lt HT.out hi0 hlt)).mono ?_; rintro e w7 ⟨rfl, hb7⟩; have hB7 := hHeld.2.trans (hb7.mono hHeld.2.size))
    refine hKt.out _ _ ?_ (fun hT => ?_)
    ·(exact ⟨⟨below_cell hb7 hHeld.1.1, below_cell hb7 hHeld.1.2.1, below_cell hb7 hHeld.1.2.2.1, below_cell hb7 hHeld.1.2.2.2⟩, hB7⟩)
    clear hKt Kt hHeld
    have hHeld := hT
    clear hT
    try simp only [Act.put, tkA, tkB, tkC]
    refine tkOp 23 hHeld ?_
    refine tkOp 24 hHeld ?_
    refine wpAnyH_done (by kernel_rfl) ?_ _
    have HB7 := Lib.hid (HWR.out.trans (hHeld.2.mono HWR.out.size))
    have y0 := below_cell (HB7.out) HDE.out.2.2.1
    have y1 := (HhA.out.below HB7.out) j hlt
    have y2 := (HhB.out.below HB7.out) j hlt
    rw [HZ.out]
    clear hHeld hb6 hb7 hB6 hB7 f0 f1 g0 g2 g3 x1 x2
    cases z
    ·go_wp2_with fail
     go_roundw
     case rel => exact ⟨j + 1, by simp, by omega, by unfold exU; rw [HSM.out, HOJ.out]; simp, (by first | rfl | trivial), HB7.out⟩
     case measure => (show ne - (j + 1) < ne - j; omega)
    ·obtain ⟨V, hV⟩ : ∃ V, w7 = V := ⟨_, rfl⟩
     rw [hV] at y0 y1 y2 HB7 ⊢
     have HAV := Lib.hid (HhA.out.below HB7.out)
     have HFJ := Lib.hid (HFN.out j)
     clear hV y1
     go_wp2_with fail
     go_loopw [19, 20] (fun z3 u V2 => ∃ q : Nat, u = .int .i64 ((i + q : Nat) : Int) ∧ q ≤ j - i ∧ z3 = .bool (rnA a (b j) (i) q) ∧ V2 = V) (fun _ u _ => ne + 1 - (intOf u).toNat)
     case atStart => exact ⟨0, by simp, Nat.zero_le _, rfl, rfl⟩
     case round =>
      obtain ⟨q, rfl, hq, rfl, rfl⟩ := hrel
      obtain ⟨ov, hov⟩ : ∃ x, rnA a (b j) (i) q = x := ⟨_, rfl⟩
      have HOV := Lib.hid hov
      obtain ⟨k, hk⟩ : ∃ k, i + q = k := ⟨_, rfl⟩
      have HK2 := Lib.hid hk
      have HJ2 := HJI.out
      rw [hov, hk]
      by_cases hki : k < j
      ·have hkk : ((k : Nat) : Int) < ((j : Nat) : Int) := by omega
       have c1 := HAV.out k (by omega)
       have hkn : ((k : Nat) : Int) < ((ne : Nat) : Int) := by omega
       obtain ⟨p, hp⟩ : ∃ p, a k = p := ⟨_, rfl⟩
       have HP := Lib.hid hp
       rw [hp] at c1
       clear hov hk hp HJ2
       cases ov
       all_goals
        go_wp2_with fail
        go_roundw
        case rel => exact ⟨q + 1, by have := HK2.out; simp; omega, by have := HK2.out; have := HJI.out; omega, by unfold rnA; rw [HOV.out, HK2.out, HP.out]; simp, (by first | rfl | trivial)⟩
        case measure => (show ne + 1 - (k + 1) < ne + 1 - k; omega)
      ·have hkk : ¬ (((k : Nat) : Int) < ((j : Nat) : Int)) := by omega
       have HRN := Lib.hid (show fn j = ov from by rw [← HFJ.out, ← hov]; show rnA a (b j) (i) (j - i) = _; rw [show j - i = q by omega])
       clear hov hk HJ2 hki
       cases sm
       all_goals
        go_wp2_with fail
        go_roundw
        case rel => exact ⟨j + 1, by simp, by omega, by unfold exU; rw [HSM.out, HOJ.out, HRN.out]; simp, (by first | rfl | trivial), HB7.out⟩
        case measure => (show ne - (j + 1) < ne - j; omega)
   ·have hc2 : decide (((j : Nat) : Int) < ((i : Nat) : Int)) = true := decide_eq_true (by omega)
    have hc3 : decide (j < i) = true := decide_eq_true (by omega)
    have HOJ := Lib.hid (show ok j = false from by rw [← HK.out]; unfold okF; rw [decide_eq_false hji]; rfl)
    clear hji
    go_wp2_with fail
    refine wp_region_held_drew (S := fun _ => True) (by kernel_rfl) trivial (fun hHeld => ?_)
    refine tkOp 0 hHeld ?_
    refine tkOp 1 hHeld ?_
    refine tkSkips [2, 3, 4] 20 hHeld ?_
    simp only [Skips.skipAct, Skips.skipListed, List.getElem?_toArray, List.getElem?_cons_succ, List.getElem?_cons_zero, Act.put, List.setIfInBounds_toArray, List.set_cons_zero, List.set_cons_succ]
    refine tkOp 5 hHeld ?_
    refine tkOp 6 hHeld ?_
    refine tkOp 7 hHeld ?_
    refine tkOp 8 hHeld ?_
    refine tkOp 9 hHeld ?_
    refine tkOp 10 hHeld ?_
    refine tkOp 11 hHeld ?_
    refine tkOp 12 hHeld ?_
    refine tkOp 13 hHeld ?_
    refine tkOp 14 hHeld ?_
    refine tkOp 15 hHeld ?_
    refine tkSkips [16, 17, 18, 19, 20, 21, 22, 23] 1 hHeld ?_
    simp only [Skips.skipAct, Skips.skipListed, List.getElem?_toArray, List.getElem?_cons_succ, List.getElem?_cons_zero, Act.put, List.setIfInBounds_toArray, List.set_cons_zero, List.set_cons_succ]
    refine tkOp 24 hHeld ?_
    refine wpAnyH_done (by kernel_rfl) ?_ _
    clear hHeld
    go_wp2_with fail
    go_roundw
    case rel => exact ⟨j + 1, by simp, by omega, by unfold exU; rw [HSM.out, HOJ.out]; simp, (by first | rfl | trivial), HWR.out.drew⟩
    case measure => (show ne - (j + 1) < ne - j; omega)
  ·obtain rfl : j = ne := by omega
   have HX := Lib.hid (HB.out.trans (HWR.out.mono HB.out.size))
   clear hB
   go_wp2_with fail
   go_ret
   exact ⟨by rw [HSM.out]; rfl, HX.out⟩
end Go.Proofs.YtdbgaccnejffpaaGreat.Sat
