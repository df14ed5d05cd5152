/-
  The reference's apart; its holds, kind by kind (stage 15). By an AI agent. (Written by wip/tools/genholds15.py.)
-/
import Derived.Test.YtdbgaccnejffpaaGreatGSatTells29
import Derived.Test.YtdbgaccnejffpaaGreatGSatTells1
import Derived.Test.YtdbgaccnejffpaaGreatGSatTells19
import Derived.Test.YtdbgaccnejffpaaGreatGSatTells2
import Derived.Test.YtdbgaccnejffpaaGreatGSatTells24
import Derived.Lib.MinMax
namespace Go.Proofs.YtdbgaccnejffpaaGreat.Sat
open Go.RowKit Go.Proofs.YtdbgaccnejffpaaGreat.Ints Go.Proofs.YtdbgaccnejffpaaGreat.Mem Go.Proofs.YtdbgaccnejffpaaGreat.Src Go.Proofs.YtdbgaccnejffpaaGreat.Paths Go.Proofs.YtdbgaccnejffpaaGreat.Late Go.Proofs.YtdbgaccnejffpaaGreat.Trace
theorem ev_tms {w : World} {NA : Option Addr} {nn nc : Nat} {EA : Option Addr} {ne ec : Nat} {t : Tr} (h : TrOk Any w NA nn nc EA ne ec t) (h0 : 0 < ne) : ∃ (b off : Nat), EA = some ⟨b, off, none⟩ ∧ ∀ i, i < ne → w.cell? ⟨b, off + i * 2, none⟩ = some (.int .u64 (((tmOf t).tm i : Nat) : Int)) ∧ (tmOf t).tm i < 18446744073709551616 := by
 have he := h.elen
 obtain ⟨b, off, e, hc⟩ := h.evs (by omega)
 refine ⟨b, off, e, fun i hi => ?_⟩
 obtain ⟨x, hx⟩ : ∃ x, t.events[i]? = some x := ⟨_, List.getElem?_eq_getElem (by omega)⟩
 have hd : t.events.getD i noEv = x := by rw [List.getD_eq_getElem?_getD, hx]; rfl
 obtain ⟨h1, h2, -⟩ := hc i x hx
 have hw := wf_u64 h2
 have ht : (((tmOf t).tm i : Nat) : Int) = x.time := by
  show ((((t.events.getD i noEv).time).toNat : Nat) : Int) = _
  rw [hd]
  omega
 refine ⟨?_, by omega⟩
 rw [ht, Nat.mul_comm]
 exact h1
theorem two_boxes {w W1 W2 : World} {c1 c2 : Array Value} {T1 T2 : TypeId} (h1 : w.alloc (.cells c1 T1) = W1) (h2 : W1.alloc (.cells c2 T2) = W2) :
  Below w.heap.size w W2 ∧ W1.heap.size = w.heap.size + 1 ∧ (∀ k u, c1[k]? = some u → W2.cell? ⟨w.heap.size, k, none⟩ = some u) ∧ (∀ k u, c2[k]? = some u → W2.cell? ⟨w.heap.size + 1, k, none⟩ = some u) := by
 have s1 : W1.heap.size = w.heap.size + 1 := by rw [← h1]; simp
 have b1 : Below w.heap.size w W1 := by rw [← h1]; exact (Below.refl _ _).alloc (Nat.le_refl _) _
 have b2 : Below W1.heap.size W1 W2 := by rw [← h2]; exact (Below.refl _ _).alloc (Nat.le_refl _) _
 refine ⟨b1.trans (b2.mono (by omega)), s1, fun k u hu => ?_, fun k u hu => ?_⟩
 ·have x := box_cell (w := w) (T := T1) k u hu
  rw [h1] at x
  exact below_cell b2 x
 ·have x := box_cell (w := W1) (T := T2) k u hu
  rw [h2, s1] at x
  exact x
section
variable {NA : Option Addr} {nn nc : Nat} {EA : Option Addr} {ne ec : Nat} {t : Tr} {w : World}
set_option maxHeartbeats 4000000 in
set_option maxRecDepth 100000 in
theorem refApart (h : TrOk Any w NA nn nc EA ne ec t) {i j : Nat} (hi : i < ne) (hj : j < ne) :
  Calls Tryz.prog 64 #[.agg #[.slice NA nn nc, .slice EA ne ec], .int .i64 ((i : Nat) : Int), .int .i64 ((j : Nat) : Int)] w fun e w' => e = .returned (.int .u64 ((apN (tmOf t) i j : Nat) : Int)) ∧ Below w.heap.size w w' := by
 obtain ⟨W, hW⟩ : ∃ W, w.alloc (.cells #[.slice NA nn nc, .slice EA ne ec] 25) = W := ⟨_, rfl⟩
 have hbW : Below w.heap.size w W := by rw [← hW]; exact (Below.refl _ _).alloc (Nat.le_refl _) _
 have d1 : W.cell? ⟨w.heap.size, 1, none⟩ = some (.slice EA ne ec) := by rw [← hW]; exact box_cell 1 _ rfl
 obtain ⟨b, off, rfl, hc⟩ := ev_tms h (by omega)
 obtain ⟨c1, l1⟩ := hc i hi
 obtain ⟨c2, l2⟩ := hc j hj
 have hA : apN (tmOf t) i j = max ((tmOf t).tm i) ((tmOf t).tm j) - min ((tmOf t).tm i) ((tmOf t).tm j) := rfl
 rw [hA]
 obtain ⟨X, hX⟩ : ∃ X, (tmOf t).tm i = X := ⟨_, rfl⟩
 obtain ⟨Y, hY⟩ : ∃ Y, (tmOf t).tm j = Y := ⟨_, rfl⟩
 rw [hX] at c1 l1 ⊢
 rw [hY] at c2 l2 ⊢
 have c1 := below_cell hbW c1
 have c2 := below_cell hbW c2
 have hii : ((i : Nat) : Int) < ((ne : Nat) : Int) := by omega
 have hji : ((j : Nat) : Int) < ((ne : Nat) : Int) := by omega
 have HB := Lib.hid hbW
 have hmx : max ((X : Nat) : Int) ((Y : Nat) : Int) = ((max X Y : Nat) : Int) := by omega
 have hmn : min ((X : Nat) : Int) ((Y : Nat) : Int) = ((min X Y : Nat) : Int) := by omega
 have hsb : IntKind.u64.wrap (((max X Y : Nat) : Int) - ((min X Y : Nat) : Int)) = ((max X Y - min X Y : Nat) : Int) := by rw [IntKind.wrap_u64]; omega
 obtain ⟨M, hM⟩ : ∃ M, max X Y = M := ⟨_, rfl⟩
 obtain ⟨L, hL⟩ : ∃ L, min X Y = L := ⟨_, rfl⟩
 rw [hM, hL] at hsb ⊢
 rw [hM] at hmx
 rw [hL] at hmn
 obtain ⟨D, hD⟩ : ∃ D, M - L = D := ⟨_, rfl⟩
 rw [hD] at hsb ⊢
 clear h hc hbW hA hX hY l1 l2 hM hL hD
 go_enter Tryz.func64, Tryz.ntmps64
 go_wp2_with fail
 refine wp_region_held_drew (S := fun V => V.cell? ⟨w.heap.size, 1, none⟩ = some (.slice (some ⟨b, off, none⟩) ne ec) ∧ V.cell? ⟨b, off + i * 2, none⟩ = some (.int .u64 ((X : Nat) : Int)) ∧ V.cell? ⟨b, off + j * 2, none⟩ = some (.int .u64 ((Y : Nat) : Int))) (by kernel_rfl) ⟨d1, c1, c2⟩ (fun hHeld => ?_)
 refine tkOp 0 hHeld ?_
 refine tkOp 1 hHeld ?_
 refine tkOp 2 hHeld ?_
 refine tkOp 3 hHeld ?_
 refine tkOp 4 hHeld ?_
 refine tkOp 5 hHeld ?_
 refine tkOp 6 hHeld ?_
 refine tkOp 7 hHeld ?_
 refine tkOp 8 hHeld ?_
 refine tkOp 9 hHeld ?_
 refine tkOp 10 hHeld ?_
 refine tkOp 11 hHeld ?_
 refine tkOp 12 hHeld ?_
 refine tkOp 13 hHeld ?_
 refine wpAnyH_done (by kernel_rfl) ?_ _
 clear hHeld
 go_wp2_with fail
 go_ret
 exact ⟨rfl, HB.out.drew⟩
theorem ap_lt (h : TrOk Any w NA nn nc EA ne ec t) {i j : Nat} (hi : i < ne) (hj : j < ne) : apN (tmOf t) i j < 18446744073709551616 := by
 obtain ⟨b, off, -, hc⟩ := ev_tms h (by omega)
 have h1 := (hc i hi).2
 have h2 := (hc j hj).2
 unfold apN
 omega
theorem wr64 {x : Int} (h : 0 ≤ x ∧ x ≤ 9223372036854775807) : IntKind.i64.wrap x = x := by
 rw [IntKind.wrap_i64]
 omega
def GotHv (w : World) (x : Bool) (e : Ending) (w' : World) : Prop := e = .returned (.bool x) ∧ Below w.heap.size w w'
end
set_option maxHeartbeats 8000000 in
set_option maxRecDepth 100000 in
theorem holds_1 {NA : Option Addr} {nn nc : Nat} {EA : Option Addr} {ne ec : Nat} {t : Tr} {w : World} (h : TrOk Any w NA nn nc EA ne ec t) (_hn : ne ≤ 64) (nm : ByteArray) (lo hi : Int) (K : Option Addr) (m cK : Nat) {i : Nat} (hi0 : i < ne) {A B : Option Addr} {qa ca qb cb : Nat} (a b : Nat → Bool) :
  Calls Tryz.prog 65 #[.agg #[.slice NA nn nc, .slice EA ne ec], .agg #[.int .i64 1, .string nm, .int .i64 lo, .int .i64 hi, .slice K m cK], .int .i64 ((i : Nat) : Int), .int .i64 ((ne : Nat) : Int), .slice A qa ca, .slice B qb cb] w (GotHv w (hvR (tmOf t) 1 (holdsT t ((i : Nat) : Int) nm.data.toList) lo hi i ne a b)) := by
 obtain ⟨W1, h1⟩ : ∃ W1, w.alloc (.cells #[.slice NA nn nc, .slice EA ne ec] 25) = W1 := ⟨_, rfl⟩
 obtain ⟨W2, h2⟩ : ∃ W2, W1.alloc (.cells #[.int .i64 1, .string nm, .int .i64 lo, .int .i64 hi, .slice K m cK] 47) = W2 := ⟨_, rfl⟩
 obtain ⟨hb, s1, d, e⟩ := two_boxes h1 h2
 have d0 := d 0 _ rfl
 have d1 := d 1 _ rfl
 have e0 := e 0 _ rfl
 have e1 := e 1 _ rfl
 have e2 := e 2 _ rfl
 have e3 := e 3 _ rfl
 have HB := Lib.hid hb
 have HT := Lib.hid (h.below hb)
 have hii : ((i : Nat) : Int) < ((ne : Nat) : Int) := by omega
 clear h hb d e
 go_enter Tryz.func65, Tryz.ntmps65
 go_wp2_with fail
 go_ret
 exact ⟨rfl, HB.out⟩
set_option maxHeartbeats 8000000 in
set_option maxRecDepth 100000 in
theorem holds_2 {NA : Option Addr} {nn nc : Nat} {EA : Option Addr} {ne ec : Nat} {t : Tr} {w : World} (h : TrOk Any w NA nn nc EA ne ec t) (_hn : ne ≤ 64) (nm : ByteArray) (lo hi : Int) (K : Option Addr) (m cK : Nat) {i : Nat} (hi0 : i < ne) {A B : Option Addr} {qa ca qb cb : Nat} (a b : Nat → Bool) :
  Calls Tryz.prog 65 #[.agg #[.slice NA nn nc, .slice EA ne ec], .agg #[.int .i64 2, .string nm, .int .i64 lo, .int .i64 hi, .slice K m cK], .int .i64 ((i : Nat) : Int), .int .i64 ((ne : Nat) : Int), .slice A qa ca, .slice B qb cb] w (GotHv w (hvR (tmOf t) 2 (holdsT t ((i : Nat) : Int) nm.data.toList) lo hi i ne a b)) := by
 obtain ⟨W1, h1⟩ : ∃ W1, w.alloc (.cells #[.slice NA nn nc, .slice EA ne ec] 25) = W1 := ⟨_, rfl⟩
 obtain ⟨W2, h2⟩ : ∃ W2, W1.alloc (.cells #[.int .i64 2, .string nm, .int .i64 lo, .int .i64 hi, .slice K m cK] 47) = W2 := ⟨_, rfl⟩
 obtain ⟨hb, s1, d, e⟩ := two_boxes h1 h2
 have d0 := d 0 _ rfl
 have d1 := d 1 _ rfl
 have e0 := e 0 _ rfl
 have e1 := e 1 _ rfl
 have e2 := e 2 _ rfl
 have e3 := e 3 _ rfl
 have HB := Lib.hid hb
 have HT := Lib.hid (h.below hb)
 have hii : ((i : Nat) : Int) < ((ne : Nat) : Int) := by omega
 clear h hb d e
 go_enter Tryz.func65, Tryz.ntmps65
 go_wp2_with fail
 go_ret
 exact ⟨rfl, HB.out⟩
set_option maxHeartbeats 8000000 in
set_option maxRecDepth 100000 in
theorem holds_3 {NA : Option Addr} {nn nc : Nat} {EA : Option Addr} {ne ec : Nat} {t : Tr} {w : World} (h : TrOk Any w NA nn nc EA ne ec t) (_hn : ne ≤ 64) (nm : ByteArray) (lo hi : Int) (K : Option Addr) (m cK : Nat) {i : Nat} (hi0 : i < ne) {A B : Option Addr} {qa ca qb cb : Nat} (a b : Nat → Bool) :
  Calls Tryz.prog 65 #[.agg #[.slice NA nn nc, .slice EA ne ec], .agg #[.int .i64 3, .string nm, .int .i64 lo, .int .i64 hi, .slice K m cK], .int .i64 ((i : Nat) : Int), .int .i64 ((ne : Nat) : Int), .slice A qa ca, .slice B qb cb] w (GotHv w (hvR (tmOf t) 3 (holdsT t ((i : Nat) : Int) nm.data.toList) lo hi i ne a b)) := by
 obtain ⟨W1, h1⟩ : ∃ W1, w.alloc (.cells #[.slice NA nn nc, .slice EA ne ec] 25) = W1 := ⟨_, rfl⟩
 obtain ⟨W2, h2⟩ : ∃ W2, W1.alloc (.cells #[.int .i64 3, .string nm, .int .i64 lo, .int .i64 hi, .slice K m cK] 47) = W2 := ⟨_, rfl⟩
 obtain ⟨hb, s1, d, e⟩ := two_boxes h1 h2
 have d0 := d 0 _ rfl
 have d1 := d 1 _ rfl
 have e0 := e 0 _ rfl
 have e1 := e 1 _ rfl
 have e2 := e 2 _ rfl
 have e3 := e 3 _ rfl
 have HB := Lib.hid hb
 have HT := Lib.hid (h.below hb)
 have hii : ((i : Nat) : Int) < ((ne : Nat) : Int) := by omega
 clear h hb d e
 have HH := Lib.hid (refHolds NA nn nc EA ne ec t ((i : Nat) : Int) nm W2 HT.out ⟨by omega, by omega⟩)
 obtain ⟨x, hx⟩ : ∃ x, holdsT t ((i : Nat) : Int) nm.data.toList = x := ⟨_, rfl⟩
 rw [hx] at HH ⊢
 clear hx
 go_enter Tryz.func65, Tryz.ntmps65
 go_wp2_with fail
 refine HH.out.mono ?_
 rintro e w3 ⟨rfl, hb3⟩
 have HB3 := Lib.hid (HB.out.trans (hb3.mono HB.out.size))
 clear hb3
 go_wp2_with fail
 go_ret
 exact ⟨rfl, HB3.out⟩
set_option maxHeartbeats 8000000 in
set_option maxRecDepth 100000 in
theorem holds_4 {NA : Option Addr} {nn nc : Nat} {EA : Option Addr} {ne ec : Nat} {t : Tr} {w : World} (h : TrOk Any w NA nn nc EA ne ec t) (_hn : ne ≤ 64) (nm : ByteArray) (lo hi : Int) (K : Option Addr) (m cK : Nat) {i : Nat} (hi0 : i < ne) (b1 : Nat) {B : Option Addr} {qb cb : Nat} (a b : Nat → Bool) (hA : RB w b1 ne a) :
  Calls Tryz.prog 65 #[.agg #[.slice NA nn nc, .slice EA ne ec], .agg #[.int .i64 4, .string nm, .int .i64 lo, .int .i64 hi, .slice K m cK], .int .i64 ((i : Nat) : Int), .int .i64 ((ne : Nat) : Int), .slice (some ⟨b1, 0, none⟩) ne ne, .slice B qb cb] w (GotHv w (hvR (tmOf t) 4 (holdsT t ((i : Nat) : Int) nm.data.toList) lo hi i ne a b)) := by
 obtain ⟨W1, h1⟩ : ∃ W1, w.alloc (.cells #[.slice NA nn nc, .slice EA ne ec] 25) = W1 := ⟨_, rfl⟩
 obtain ⟨W2, h2⟩ : ∃ W2, W1.alloc (.cells #[.int .i64 4, .string nm, .int .i64 lo, .int .i64 hi, .slice K m cK] 47) = W2 := ⟨_, rfl⟩
 obtain ⟨hb, s1, d, e⟩ := two_boxes h1 h2
 have d0 := d 0 _ rfl
 have d1 := d 1 _ rfl
 have e0 := e 0 _ rfl
 have e1 := e 1 _ rfl
 have e2 := e 2 _ rfl
 have e3 := e 3 _ rfl
 have HB := Lib.hid hb
 have HT := Lib.hid (h.below hb)
 have hii : ((i : Nat) : Int) < ((ne : Nat) : Int) := by omega
 have HhA := Lib.hid (hA.below hb)
 clear h hb d e hA
 have x1 := HhA.out i hi0
 have hv : hvR (tmOf t) 4 (holdsT t ((i : Nat) : Int) nm.data.toList) lo hi i ne a b = !(a i) := rfl
 rw [hv]
 obtain ⟨p, hp⟩ : ∃ p, a i = p := ⟨_, rfl⟩
 rw [hp] at x1 ⊢
 clear hp hv
 go_enter Tryz.func65, Tryz.ntmps65
 go_wp2_with fail
 go_ret
 exact ⟨rfl, HB.out⟩
set_option maxHeartbeats 8000000 in
set_option maxRecDepth 100000 in
theorem holds_5 {NA : Option Addr} {nn nc : Nat} {EA : Option Addr} {ne ec : Nat} {t : Tr} {w : World} (h : TrOk Any w NA nn nc EA ne ec t) (_hn : ne ≤ 64) (nm : ByteArray) (lo hi : Int) (K : Option Addr) (m cK : Nat) {i : Nat} (hi0 : i < ne) (b1 b2 : Nat) (a b : Nat → Bool) (hA : RB w b1 ne a) (hB : RB w b2 ne b) :
  Calls Tryz.prog 65 #[.agg #[.slice NA nn nc, .slice EA ne ec], .agg #[.int .i64 5, .string nm, .int .i64 lo, .int .i64 hi, .slice K m cK], .int .i64 ((i : Nat) : Int), .int .i64 ((ne : Nat) : Int), .slice (some ⟨b1, 0, none⟩) ne ne, .slice (some ⟨b2, 0, none⟩) ne ne] w (GotHv w (hvR (tmOf t) 5 (holdsT t ((i : Nat) : Int) nm.data.toList) lo hi i ne a b)) := by
 obtain ⟨W1, h1⟩ : ∃ W1, w.alloc (.cells #[.slice NA nn nc, .slice EA ne ec] 25) = W1 := ⟨_, rfl⟩
 obtain ⟨W2, h2⟩ : ∃ W2, W1.alloc (.cells #[.int .i64 5, .string nm, .int .i64 lo, .int .i64 hi, .slice K m cK] 47) = W2 := ⟨_, rfl⟩
 obtain ⟨hb, s1, d, e⟩ := two_boxes h1 h2
 have d0 := d 0 _ rfl
 have d1 := d 1 _ rfl
 have e0 := e 0 _ rfl
 have e1 := e 1 _ rfl
 have e2 := e 2 _ rfl
 have e3 := e 3 _ rfl
 have HB := Lib.hid hb
 have HT := Lib.hid (h.below hb)
 have hii : ((i : Nat) : Int) < ((ne : Nat) : Int) := by omega
 have HhA := Lib.hid (hA.below hb)
 have HhB := Lib.hid (hB.below hb)
 clear h hb d e hA hB
 have x1 := HhA.out i hi0
 have x2 := HhB.out i hi0
 have hv : hvR (tmOf t) 5 (holdsT t ((i : Nat) : Int) nm.data.toList) lo hi i ne a b = (a i && b i) := rfl
 rw [hv]
 obtain ⟨p, hp⟩ : ∃ p, a i = p := ⟨_, rfl⟩
 obtain ⟨q, hq⟩ : ∃ q, b i = q := ⟨_, rfl⟩
 rw [hp] at x1 ⊢
 rw [hq] at x2 ⊢
 clear hp hq hv
 cases p
 all_goals
  go_enter Tryz.func65, Tryz.ntmps65
  go_wp2_with fail
  go_ret
  exact ⟨rfl, HB.out⟩
set_option maxHeartbeats 8000000 in
set_option maxRecDepth 100000 in
theorem holds_6 {NA : Option Addr} {nn nc : Nat} {EA : Option Addr} {ne ec : Nat} {t : Tr} {w : World} (h : TrOk Any w NA nn nc EA ne ec t) (_hn : ne ≤ 64) (nm : ByteArray) (lo hi : Int) (K : Option Addr) (m cK : Nat) {i : Nat} (hi0 : i < ne) (b1 b2 : Nat) (a b : Nat → Bool) (hA : RB w b1 ne a) (hB : RB w b2 ne b) :
  Calls Tryz.prog 65 #[.agg #[.slice NA nn nc, .slice EA ne ec], .agg #[.int .i64 6, .string nm, .int .i64 lo, .int .i64 hi, .slice K m cK], .int .i64 ((i : Nat) : Int), .int .i64 ((ne : Nat) : Int), .slice (some ⟨b1, 0, none⟩) ne ne, .slice (some ⟨b2, 0, none⟩) ne ne] w (GotHv w (hvR (tmOf t) 6 (holdsT t ((i : Nat) : Int) nm.data.toList) lo hi i ne a b)) := by
 obtain ⟨W1, h1⟩ : ∃ W1, w.alloc (.cells #[.slice NA nn nc, .slice EA ne ec] 25) = W1 := ⟨_, rfl⟩
 obtain ⟨W2, h2⟩ : ∃ W2, W1.alloc (.cells #[.int .i64 6, .string nm, .int .i64 lo, .int .i64 hi, .slice K m cK] 47) = W2 := ⟨_, rfl⟩
 obtain ⟨hb, s1, d, e⟩ := two_boxes h1 h2
 have d0 := d 0 _ rfl
 have d1 := d 1 _ rfl
 have e0 := e 0 _ rfl
 have e1 := e 1 _ rfl
 have e2 := e 2 _ rfl
 have e3 := e 3 _ rfl
 have HB := Lib.hid hb
 have HT := Lib.hid (h.below hb)
 have hii : ((i : Nat) : Int) < ((ne : Nat) : Int) := by omega
 have HhA := Lib.hid (hA.below hb)
 have HhB := Lib.hid (hB.below hb)
 clear h hb d e hA hB
 have x1 := HhA.out i hi0
 have x2 := HhB.out i hi0
 have hv : hvR (tmOf t) 6 (holdsT t ((i : Nat) : Int) nm.data.toList) lo hi i ne a b = (a i || b i) := rfl
 rw [hv]
 obtain ⟨p, hp⟩ : ∃ p, a i = p := ⟨_, rfl⟩
 obtain ⟨q, hq⟩ : ∃ q, b i = q := ⟨_, rfl⟩
 rw [hp] at x1 ⊢
 rw [hq] at x2 ⊢
 clear hp hq hv
 cases p
 all_goals
  go_enter Tryz.func65, Tryz.ntmps65
  go_wp2_with fail
  go_ret
  exact ⟨rfl, HB.out⟩
set_option maxHeartbeats 8000000 in
set_option maxRecDepth 100000 in
theorem holds_7 {NA : Option Addr} {nn nc : Nat} {EA : Option Addr} {ne ec : Nat} {t : Tr} {w : World} (h : TrOk Any w NA nn nc EA ne ec t) (_hn : ne ≤ 64) (nm : ByteArray) (lo hi : Int) (K : Option Addr) (m cK : Nat) {i : Nat} (hi0 : i < ne) (b1 b2 : Nat) (a b : Nat → Bool) (hA : RB w b1 ne a) (hB : RB w b2 ne b) :
  Calls Tryz.prog 65 #[.agg #[.slice NA nn nc, .slice EA ne ec], .agg #[.int .i64 7, .string nm, .int .i64 lo, .int .i64 hi, .slice K m cK], .int .i64 ((i : Nat) : Int), .int .i64 ((ne : Nat) : Int), .slice (some ⟨b1, 0, none⟩) ne ne, .slice (some ⟨b2, 0, none⟩) ne ne] w (GotHv w (hvR (tmOf t) 7 (holdsT t ((i : Nat) : Int) nm.data.toList) lo hi i ne a b)) := by
 obtain ⟨W1, h1⟩ : ∃ W1, w.alloc (.cells #[.slice NA nn nc, .slice EA ne ec] 25) = W1 := ⟨_, rfl⟩
 obtain ⟨W2, h2⟩ : ∃ W2, W1.alloc (.cells #[.int .i64 7, .string nm, .int .i64 lo, .int .i64 hi, .slice K m cK] 47) = W2 := ⟨_, rfl⟩
 obtain ⟨hb, s1, d, e⟩ := two_boxes h1 h2
 have d0 := d 0 _ rfl
 have d1 := d 1 _ rfl
 have e0 := e 0 _ rfl
 have e1 := e 1 _ rfl
 have e2 := e 2 _ rfl
 have e3 := e 3 _ rfl
 have HB := Lib.hid hb
 have HT := Lib.hid (h.below hb)
 have hii : ((i : Nat) : Int) < ((ne : Nat) : Int) := by omega
 have HhA := Lib.hid (hA.below hb)
 have HhB := Lib.hid (hB.below hb)
 clear h hb d e hA hB
 have x1 := HhA.out i hi0
 have x2 := HhB.out i hi0
 have hv : hvR (tmOf t) 7 (holdsT t ((i : Nat) : Int) nm.data.toList) lo hi i ne a b = (!(a i) || b i) := rfl
 rw [hv]
 obtain ⟨p, hp⟩ : ∃ p, a i = p := ⟨_, rfl⟩
 obtain ⟨q, hq⟩ : ∃ q, b i = q := ⟨_, rfl⟩
 rw [hp] at x1 ⊢
 rw [hq] at x2 ⊢
 clear hp hq hv
 cases p
 all_goals
  go_enter Tryz.func65, Tryz.ntmps65
  go_wp2_with fail
  go_ret
  exact ⟨rfl, HB.out⟩
set_option maxHeartbeats 8000000 in
set_option maxRecDepth 100000 in
theorem holds_8 {NA : Option Addr} {nn nc : Nat} {EA : Option Addr} {ne ec : Nat} {t : Tr} {w : World} (h : TrOk Any w NA nn nc EA ne ec t) (_hn : ne ≤ 64) (nm : ByteArray) (lo hi : Int) (K : Option Addr) (m cK : Nat) {i : Nat} (hi0 : i < ne) (b1 : Nat) {B : Option Addr} {qb cb : Nat} (a b : Nat → Bool) (hA : RB w b1 ne a) :
  Calls Tryz.prog 65 #[.agg #[.slice NA nn nc, .slice EA ne ec], .agg #[.int .i64 8, .string nm, .int .i64 lo, .int .i64 hi, .slice K m cK], .int .i64 ((i : Nat) : Int), .int .i64 ((ne : Nat) : Int), .slice (some ⟨b1, 0, none⟩) ne ne, .slice B qb cb] w (GotHv w (hvR (tmOf t) 8 (holdsT t ((i : Nat) : Int) nm.data.toList) lo hi i ne a b)) := by
 obtain ⟨W1, h1⟩ : ∃ W1, w.alloc (.cells #[.slice NA nn nc, .slice EA ne ec] 25) = W1 := ⟨_, rfl⟩
 obtain ⟨W2, h2⟩ : ∃ W2, W1.alloc (.cells #[.int .i64 8, .string nm, .int .i64 lo, .int .i64 hi, .slice K m cK] 47) = W2 := ⟨_, rfl⟩
 obtain ⟨hb, s1, d, e⟩ := two_boxes h1 h2
 have d0 := d 0 _ rfl
 have d1 := d 1 _ rfl
 have e0 := e 0 _ rfl
 have e1 := e 1 _ rfl
 have e2 := e 2 _ rfl
 have e3 := e 3 _ rfl
 have HB := Lib.hid hb
 have HT := Lib.hid (h.below hb)
 have hii : ((i : Nat) : Int) < ((ne : Nat) : Int) := by omega
 have HhA := Lib.hid (hA.below hb)
 clear h hb d e hA
 have hv : hvR (tmOf t) 8 (holdsT t ((i : Nat) : Int) nm.data.toList) lo hi i ne a b = (decide (0 < i) && (a (i - 1) && Ival.hasS lo hi (apN (tmOf t) (i - 1) i))) := rfl
 rw [hv]
 clear hv
 by_cases hc : 0 < i
 ·have x1 := HhA.out (i - 1) (by omega)
  rw [decide_eq_true hc, Bool.true_and]
  obtain ⟨p, hp⟩ : ∃ p, a (i - 1) = p := ⟨_, rfl⟩
  obtain ⟨q, hq⟩ : ∃ q, i - 1 = q := ⟨_, rfl⟩
  rw [hp, hq] at x1
  rw [hp]
  have hqn : ((q : Nat) : Int) < ((ne : Nat) : Int) := by omega
  have hiq : ((i : Nat) : Int) - 1 = ((q : Nat) : Int) := by omega
  have hwr : IntKind.i64.wrap (((i : Nat) : Int) - 1) = ((q : Nat) : Int) := by rw [hiq]; exact wr64 (by omega)
  have hwq : IntKind.i64.wrap ((q : Nat) : Int) = ((q : Nat) : Int) := wr64 (by omega)
  have hci : decide (((i : Nat) : Int) > 0) = true := decide_eq_true (by omega)
  have hci2 : decide ((0 : Int) < ((i : Nat) : Int)) = true := decide_eq_true (by omega)
  have hci3 : decide (0 < i) = true := decide_eq_true (by omega)
  have HT1 := Lib.hid (show ∀ V, Below W2.heap.size W2 V → Calls Tryz.prog 64 #[.agg #[.slice NA nn nc, .slice EA ne ec], .int .i64 ((q : Nat) : Int), .int .i64 ((i : Nat) : Int)] V fun e w' => e = .returned (.int .u64 ((apN (tmOf t) q i : Nat) : Int)) ∧ Below V.heap.size V w' from fun V hV => refApart (HT.out.below hV) (by omega) hi0)
  rw [hq]
  have HQ := Lib.hid (show q < ne from by omega)
  clear hp hq hc
  obtain ⟨z, hz⟩ : ∃ z, Ival.hasS lo hi (apN (tmOf t) q i) = z := ⟨_, rfl⟩
  have HZ := Lib.hid hz
  rw [hz]
  clear hz
  cases p
  ·have HX := Lib.hid HB.out.drew
   go_enter Tryz.func65, Tryz.ntmps65
   go_wp2_with fail
   refine wp_region_held_drew (S := fun V => V.cell? ⟨b1, q, none⟩ = some (.bool false)) (by kernel_rfl) x1 (fun hHeld => ?_)
   refine tkOp 0 hHeld ?_
   refine tkOp 1 hHeld ?_
   refine tkOp 2 hHeld ?_
   refine tkOp 3 hHeld ?_
   refine tkOp 4 hHeld ?_
   refine tkOp 5 hHeld ?_
   refine tkOp 6 hHeld ?_
   refine tkOp 7 hHeld ?_
   refine tkOp 8 hHeld ?_
   refine tkOp 9 hHeld ?_
   refine tkSkips [10, 11, 12, 13, 14, 15, 16, 17] 2 hHeld ?_
   simp only [Skips.skipAct, Skips.skipListed, List.getElem?_toArray, List.getElem?_cons_succ, List.getElem?_cons_zero, Act.put, List.setIfInBounds_toArray, List.set_cons_zero, List.set_cons_succ]
   refine tkOp 18 hHeld ?_
   refine tkOp 19 hHeld ?_
   refine wpAnyH_done (by kernel_rfl) ?_ _
   clear hHeld
   go_wp2_with fail
   go_ret
   exact ⟨rfl, HX.out⟩
  ·go_enter Tryz.func65, Tryz.ntmps65
   go_wp2_with fail
   refine wp_region_held_drew (S := fun V => (V.cell? ⟨w.heap.size, 0, none⟩ = some (.slice NA nn nc) ∧ V.cell? ⟨w.heap.size, 1, none⟩ = some (.slice EA ne ec) ∧ V.cell? ⟨w.heap.size + 1, 2, none⟩ = some (.int .i64 lo) ∧ V.cell? ⟨w.heap.size + 1, 3, none⟩ = some (.int .i64 hi) ∧ V.cell? ⟨b1, q, none⟩ = some (.bool true)) ∧ Below W2.heap.size W2 V) (by kernel_rfl) ⟨⟨d0, d1, e2, e3, x1⟩, (Below.refl _ _).drew⟩ (fun hHeld => ?_)
   refine tkOp 0 hHeld ?_
   refine tkOp 1 hHeld ?_
   refine tkOp 2 hHeld ?_
   refine tkOp 3 hHeld ?_
   refine tkOp 4 hHeld ?_
   refine tkOp 5 hHeld ?_
   refine tkOp 6 hHeld ?_
   refine tkOp 7 hHeld ?_
   refine tkOp 8 hHeld ?_
   refine tkOp 9 hHeld ?_
   refine tkOp 10 hHeld ?_
   refine tkOp 11 hHeld ?_
   refine tkOp 12 hHeld ?_
   refine tkOp 13 hHeld ?_
   refine tkOp 14 hHeld ?_
   refine tkOp 15 hHeld ?_
   refine tkCall 16 (fun Kt hKt => ?_)
   go_simp
   (go_at_call 64; refine (HT1.out _ hHeld.2).mono ?_; rintro e w6 ⟨rfl, hb6⟩; have hB6 := hHeld.2.trans (hb6.mono hHeld.2.size))
   refine hKt.out _ _ ?_ (fun hT => ?_)
   ·(exact ⟨⟨below_cell hb6 hHeld.1.1, below_cell hb6 hHeld.1.2.1, below_cell hb6 hHeld.1.2.2.1, below_cell hb6 hHeld.1.2.2.2.1, below_cell hb6 hHeld.1.2.2.2.2⟩, hB6⟩)
   clear hKt Kt hHeld
   have hHeld := hT
   clear hT
   try simp only [Act.put, tkA, tkB, tkC]
   refine tkCall 17 (fun Kt hKt => ?_)
   go_simp
   (go_at_call 63; refine (Ival.refHas lo hi (apN (tmOf t) q i) _ (ap_lt HT.out HQ.out hi0)).mono ?_; rintro e w7 ⟨rfl, hb7⟩; have hB7 := hHeld.2.trans (hb7.mono hHeld.2.size))
   refine hKt.out _ _ ?_ (fun hT => ?_)
   ·(exact ⟨⟨below_cell hb7 hHeld.1.1, below_cell hb7 hHeld.1.2.1, below_cell hb7 hHeld.1.2.2.1, below_cell hb7 hHeld.1.2.2.2.1, below_cell hb7 hHeld.1.2.2.2.2⟩, hB7⟩)
   clear hKt Kt hHeld
   have hHeld := hT
   clear hT
   try simp only [Act.put, tkA, tkB, tkC]
   refine tkOp 18 hHeld ?_
   refine tkOp 19 hHeld ?_
   refine wpAnyH_done (by kernel_rfl) ?_ _
   have HX := Lib.hid (HB.out.trans (hHeld.2.mono HB.out.size))
   clear hHeld
   go_wp2_with fail
   go_ret
   exact ⟨by rw [HZ.out]; rfl, HX.out⟩
 ·rw [decide_eq_false hc, Bool.false_and]
  have HX := Lib.hid HB.out.drew
  have hci : decide (((i : Nat) : Int) > 0) = false := decide_eq_false (by omega)
  have hci2 : decide ((0 : Int) < ((i : Nat) : Int)) = false := decide_eq_false (by omega)
  have hci3 : decide (0 < i) = false := decide_eq_false (by omega)
  clear hc
  go_enter Tryz.func65, Tryz.ntmps65
  go_wp2_with fail
  refine wp_region_held_drew (S := fun _ => True) (by kernel_rfl) trivial (fun hHeld => ?_)
  refine tkOp 0 hHeld ?_
  refine tkOp 1 hHeld ?_
  refine tkOp 2 hHeld ?_
  refine tkSkips [3, 4, 5, 6, 7] 12 hHeld ?_
  simp only [Skips.skipAct, Skips.skipListed, List.getElem?_toArray, List.getElem?_cons_succ, List.getElem?_cons_zero, Act.put, List.setIfInBounds_toArray, List.set_cons_zero, List.set_cons_succ]
  refine tkOp 8 hHeld ?_
  refine tkOp 9 hHeld ?_
  refine tkSkips [10, 11, 12, 13, 14, 15, 16, 17] 2 hHeld ?_
  simp only [Skips.skipAct, Skips.skipListed, List.getElem?_toArray, List.getElem?_cons_succ, List.getElem?_cons_zero, Act.put, List.setIfInBounds_toArray, List.set_cons_zero, List.set_cons_succ]
  refine tkOp 18 hHeld ?_
  refine tkOp 19 hHeld ?_
  refine wpAnyH_done (by kernel_rfl) ?_ _
  clear hHeld
  go_wp2_with fail
  go_ret
  exact ⟨rfl, HX.out⟩
set_option maxHeartbeats 8000000 in
set_option maxRecDepth 100000 in
theorem holds_9 {NA : Option Addr} {nn nc : Nat} {EA : Option Addr} {ne ec : Nat} {t : Tr} {w : World} (h : TrOk Any w NA nn nc EA ne ec t) (_hn : ne ≤ 64) (nm : ByteArray) (lo hi : Int) (K : Option Addr) (m cK : Nat) {i : Nat} (hi0 : i < ne) (b1 : Nat) {B : Option Addr} {qb cb : Nat} (a b : Nat → Bool) (hA : RB w b1 ne a) :
  Calls Tryz.prog 65 #[.agg #[.slice NA nn nc, .slice EA ne ec], .agg #[.int .i64 9, .string nm, .int .i64 lo, .int .i64 hi, .slice K m cK], .int .i64 ((i : Nat) : Int), .int .i64 ((ne : Nat) : Int), .slice (some ⟨b1, 0, none⟩) ne ne, .slice B qb cb] w (GotHv w (hvR (tmOf t) 9 (holdsT t ((i : Nat) : Int) nm.data.toList) lo hi i ne a b)) := by
 obtain ⟨W1, h1⟩ : ∃ W1, w.alloc (.cells #[.slice NA nn nc, .slice EA ne ec] 25) = W1 := ⟨_, rfl⟩
 obtain ⟨W2, h2⟩ : ∃ W2, W1.alloc (.cells #[.int .i64 9, .string nm, .int .i64 lo, .int .i64 hi, .slice K m cK] 47) = W2 := ⟨_, rfl⟩
 obtain ⟨hb, s1, d, e⟩ := two_boxes h1 h2
 have d0 := d 0 _ rfl
 have d1 := d 1 _ rfl
 have e0 := e 0 _ rfl
 have e1 := e 1 _ rfl
 have e2 := e 2 _ rfl
 have e3 := e 3 _ rfl
 have HB := Lib.hid hb
 have HT := Lib.hid (h.below hb)
 have hii : ((i : Nat) : Int) < ((ne : Nat) : Int) := by omega
 have HhA := Lib.hid (hA.below hb)
 clear h hb d e hA
 have hv : hvR (tmOf t) 9 (holdsT t ((i : Nat) : Int) nm.data.toList) lo hi i ne a b = (decide (i + 1 < ne) && (a (i + 1) && Ival.hasS lo hi (apN (tmOf t) i (i + 1)))) := rfl
 rw [hv]
 clear hv
 by_cases hc : i + 1 < ne
 ·have x1 := HhA.out (i + 1) (by omega)
  rw [decide_eq_true hc, Bool.true_and]
  obtain ⟨p, hp⟩ : ∃ p, a (i + 1) = p := ⟨_, rfl⟩
  obtain ⟨q, hq⟩ : ∃ q, i + 1 = q := ⟨_, rfl⟩
  rw [hp, hq] at x1
  rw [hp]
  have hqn : ((q : Nat) : Int) < ((ne : Nat) : Int) := by omega
  have hiq : ((i : Nat) : Int) + 1 = ((q : Nat) : Int) := by omega
  have hwr : IntKind.i64.wrap (((i : Nat) : Int) + 1) = ((q : Nat) : Int) := by rw [hiq]; exact wr64 (by omega)
  have hwq : IntKind.i64.wrap ((q : Nat) : Int) = ((q : Nat) : Int) := wr64 (by omega)
  have hci : decide (((q : Nat) : Int) < ((ne : Nat) : Int)) = true := decide_eq_true (by omega)
  have hci3 : decide (q < ne) = true := decide_eq_true (by omega)
  have HT1 := Lib.hid (show ∀ V, Below W2.heap.size W2 V → Calls Tryz.prog 64 #[.agg #[.slice NA nn nc, .slice EA ne ec], .int .i64 ((i : Nat) : Int), .int .i64 ((q : Nat) : Int)] V fun e w' => e = .returned (.int .u64 ((apN (tmOf t) i q : Nat) : Int)) ∧ Below V.heap.size V w' from fun V hV => refApart (HT.out.below hV) hi0 (by omega))
  rw [hq]
  have HQ := Lib.hid (show q < ne from by omega)
  have HIQ := Lib.hid hwr
  clear hp hq hc hiq
  obtain ⟨z, hz⟩ : ∃ z, Ival.hasS lo hi (apN (tmOf t) i q) = z := ⟨_, rfl⟩
  have HZ := Lib.hid hz
  rw [hz]
  clear hz
  cases p
  ·have HX := Lib.hid HB.out.drew
   go_enter Tryz.func65, Tryz.ntmps65
   go_wp2_with fail
   refine wp_region_held_drew (S := fun V => V.cell? ⟨b1, q, none⟩ = some (.bool false)) (by kernel_rfl) x1 (fun hHeld => ?_)
   refine tkOp 0 hHeld ?_
   refine tkOp 1 hHeld ?_
   refine tkOp 2 hHeld ?_
   refine tkOp 3 hHeld ?_
   refine tkOp 4 hHeld ?_
   refine tkOp 5 hHeld ?_
   refine tkOp 6 hHeld ?_
   refine tkOp 7 hHeld ?_
   refine tkOp 8 hHeld ?_
   refine tkOp 9 hHeld ?_
   refine tkOp 10 hHeld ?_
   refine tkOp 11 hHeld ?_
   refine tkSkips [12, 13, 14, 15, 16, 17, 18, 19] 2 hHeld ?_
   simp only [Skips.skipAct, Skips.skipListed, List.getElem?_toArray, List.getElem?_cons_succ, List.getElem?_cons_zero, Act.put, List.setIfInBounds_toArray, List.set_cons_zero, List.set_cons_succ]
   refine tkOp 20 hHeld ?_
   refine tkOp 21 hHeld ?_
   refine wpAnyH_done (by kernel_rfl) ?_ _
   clear hHeld
   go_wp2_with fail
   go_ret
   exact ⟨rfl, HX.out⟩
  ·go_enter Tryz.func65, Tryz.ntmps65
   go_wp2_with fail
   refine wp_region_held_drew (S := fun V => (V.cell? ⟨w.heap.size, 0, none⟩ = some (.slice NA nn nc) ∧ V.cell? ⟨w.heap.size, 1, none⟩ = some (.slice EA ne ec) ∧ V.cell? ⟨w.heap.size + 1, 2, none⟩ = some (.int .i64 lo) ∧ V.cell? ⟨w.heap.size + 1, 3, none⟩ = some (.int .i64 hi) ∧ V.cell? ⟨b1, q, none⟩ = some (.bool true)) ∧ Below W2.heap.size W2 V) (by kernel_rfl) ⟨⟨d0, d1, e2, e3, x1⟩, (Below.refl _ _).drew⟩ (fun hHeld => ?_)
   refine tkOp 0 hHeld ?_
   refine tkOp 1 hHeld ?_
   refine tkOp 2 hHeld ?_
   refine tkOp 3 hHeld ?_
   refine tkOp 4 hHeld ?_
   refine tkOp 5 hHeld ?_
   refine tkOp 6 hHeld ?_
   refine tkOp 7 hHeld ?_
   refine tkOp 8 hHeld ?_
   refine tkOp 9 hHeld ?_
   refine tkOp 10 hHeld ?_
   refine tkOp 11 hHeld ?_
   refine tkOp 12 hHeld ?_
   refine tkOp 13 hHeld ?_
   refine tkOp 14 hHeld ?_
   refine tkOp 15 hHeld ?_
   refine tkOp 16 hHeld ?_
   refine tkOp 17 hHeld ?_
   refine tkCall 18 (fun Kt hKt => ?_)
   go_simp
   (go_at_call 64; refine (HT1.out _ hHeld.2).mono ?_; rintro e w6 ⟨rfl, hb6⟩; have hB6 := hHeld.2.trans (hb6.mono hHeld.2.size))
   refine hKt.out _ _ ?_ (fun hT => ?_)
   ·(exact ⟨⟨below_cell hb6 hHeld.1.1, below_cell hb6 hHeld.1.2.1, below_cell hb6 hHeld.1.2.2.1, below_cell hb6 hHeld.1.2.2.2.1, below_cell hb6 hHeld.1.2.2.2.2⟩, hB6⟩)
   clear hKt Kt hHeld
   have hHeld := hT
   clear hT
   try simp only [Act.put, tkA, tkB, tkC]
   refine tkCall 19 (fun Kt hKt => ?_)
   go_simp
   (go_at_call 63; refine (Ival.refHas lo hi (apN (tmOf t) i q) _ (ap_lt HT.out hi0 HQ.out)).mono ?_; rintro e w7 ⟨rfl, hb7⟩; have hB7 := hHeld.2.trans (hb7.mono hHeld.2.size))
   refine hKt.out _ _ ?_ (fun hT => ?_)
   ·(exact ⟨⟨below_cell hb7 hHeld.1.1, below_cell hb7 hHeld.1.2.1, below_cell hb7 hHeld.1.2.2.1, below_cell hb7 hHeld.1.2.2.2.1, below_cell hb7 hHeld.1.2.2.2.2⟩, hB7⟩)
   clear hKt Kt hHeld
   have hHeld := hT
   clear hT
   try simp only [Act.put, tkA, tkB, tkC]
   refine tkOp 20 hHeld ?_
   refine tkOp 21 hHeld ?_
   refine wpAnyH_done (by kernel_rfl) ?_ _
   have HX := Lib.hid (HB.out.trans (hHeld.2.mono HB.out.size))
   clear hHeld
   go_wp2_with fail
   go_ret
   exact ⟨by rw [HZ.out]; rfl, HX.out⟩
 ·rw [decide_eq_false hc, Bool.false_and]
  have HX := Lib.hid HB.out.drew
  have hwr : IntKind.i64.wrap (((i : Nat) : Int) + 1) = ((i : Nat) : Int) + 1 := wr64 (by omega)
  have hci : decide (((i : Nat) : Int) + 1 < ((ne : Nat) : Int)) = false := decide_eq_false (by omega)
  have hci3 : decide (i + 1 < ne) = false := decide_eq_false (by omega)
  clear hc
  go_enter Tryz.func65, Tryz.ntmps65
  go_wp2_with fail
  refine wp_region_held_drew (S := fun _ => True) (by kernel_rfl) trivial (fun hHeld => ?_)
  refine tkOp 0 hHeld ?_
  refine tkOp 1 hHeld ?_
  refine tkOp 2 hHeld ?_
  refine tkOp 3 hHeld ?_
  refine tkOp 4 hHeld ?_
  refine tkSkips [5, 6, 7, 8, 9] 12 hHeld ?_
  simp only [Skips.skipAct, Skips.skipListed, List.getElem?_toArray, List.getElem?_cons_succ, List.getElem?_cons_zero, Act.put, List.setIfInBounds_toArray, List.set_cons_zero, List.set_cons_succ]
  refine tkOp 10 hHeld ?_
  refine tkOp 11 hHeld ?_
  refine tkSkips [12, 13, 14, 15, 16, 17, 18, 19] 2 hHeld ?_
  simp only [Skips.skipAct, Skips.skipListed, List.getElem?_toArray, List.getElem?_cons_succ, List.getElem?_cons_zero, Act.put, List.setIfInBounds_toArray, List.set_cons_zero, List.set_cons_succ]
  refine tkOp 20 hHeld ?_
  refine tkOp 21 hHeld ?_
  refine wpAnyH_done (by kernel_rfl) ?_ _
  clear hHeld
  go_wp2_with fail
  go_ret
  exact ⟨rfl, HX.out⟩
end Go.Proofs.YtdbgaccnejffpaaGreat.Sat
