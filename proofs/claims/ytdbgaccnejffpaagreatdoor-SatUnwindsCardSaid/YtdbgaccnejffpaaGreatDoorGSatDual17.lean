/-
  The closures of the landed past and future (stage 15). By an AI agent. (Written by wip/tools/genclos15.py.)
  Stretches of points at a distance that a span allows (stage 15). By an AI agent.
-/
import Derived.Test.YtdbgaccnejffpaaGreatDoorGSatDual1
import Derived.Test.YtdbgaccnejffpaaGreatDoorGSatDual16
namespace Go.Proofs.YtdbgaccnejffpaaGreatDoor.Sat
open Go.RowKit Go.Proofs.YtdbgaccnejffpaaGreatDoor.Ints Go.Proofs.YtdbgaccnejffpaaGreatDoor.Mem Go.Proofs.YtdbgaccnejffpaaGreatDoor.Src Go.Proofs.YtdbgaccnejffpaaGreatDoor.Paths Go.Proofs.YtdbgaccnejffpaaGreatDoor.Late Go.Proofs.YtdbgaccnejffpaaGreatDoor.Trace
theorem wrap_small (x : Int) (h : 0 ≤ x ∧ x ≤ 9223372036854775807) : IntKind.i64.wrap x = x := by
 exact IntWalk.i64_in _ (by omega)
set_option maxHeartbeats 8000000 in
set_option maxRecDepth 100000 in
theorem past1 (J : Jd) (bs bx bi i j : Nat) (lo hi : Int) (w : World) (h : JW J w) (hs0 : w.cell? ⟨bs, 0, none⟩ = some (.int .i64 lo)) (hs1 : w.cell? ⟨bs, 1, none⟩ = some (.int .i64 hi)) (hx : w.cell? ⟨bx, 0, none⟩ = some (.pointer (some ⟨J.gj, 0, none⟩))) (hi0 : w.cell? ⟨bi, 0, none⟩ = some (.int .i64 ((i : Nat) : Int))) (hji : j ≤ i) (hin : i < J.n) :
  Calls Tryz.prog 64 #[.int .i64 ((j : Nat) : Int), .pointer (some ⟨bs, 0, none⟩), .pointer (some ⟨bx, 0, none⟩), .pointer (some ⟨bi, 0, none⟩)] w fun e w' => e = .returned (.bool (decide (0 ≤ Ival.classS lo hi ((tmOf J.t).tm i - (tmOf J.t).tm j)))) ∧ Below w.heap.size w w' := by
 have HD := Lib.hid (fun V (hb : Below w.heap.size w V) => landDist J j i V (h.below hb) (by omega) (by omega))
 obtain ⟨D, hD⟩ : ∃ D, (tmOf J.t).tm i - (tmOf J.t).tm j = D := ⟨_, rfl⟩
 have hD6 : D < 18446744073709551616 := by obtain ⟨_, _, _, _, _, _, y1, -⟩ := h.ev (show i < J.n by omega); omega
 rw [hD] at HD ⊢
 have HC := Lib.hid (fun V => Ival.progClass lo hi D V hD6)
 have hn64 := h.hn
 obtain ⟨g, hg⟩ : ∃ g, J.gj = g := ⟨_, rfl⟩
 rw [hg] at hx HD
 clear h hD hg hD6
 go_enter Tryz.func64, Tryz.ntmps64
 go_wp2_with fail
 refine wp_region_held_drew (S := fun V => V.cell? ⟨bs, 0, none⟩ = some (.int .i64 lo) ∧ V.cell? ⟨bs, 1, none⟩ = some (.int .i64 hi) ∧ V.cell? ⟨bx, 0, none⟩ = some (.pointer (some ⟨g, 0, none⟩)) ∧ V.cell? ⟨bi, 0, none⟩ = some (.int .i64 ((i : Nat) : Int))) (by kernel_rfl) ⟨hs0, hs1, hx, hi0⟩ (fun hHeld => ?_)
 refine tkOp 0 hHeld ?_
 refine tkOp 1 hHeld ?_
 refine tkOp 2 hHeld ?_
 refine tkOp 3 hHeld ?_
 refine tkCall 4 (fun Kt hKt => ?_)
 go_simp
 (go_at_call 60; refine (HD.out _ (Below.refl _ _).drew).mono ?_; rintro e w1 ⟨rfl, hb1⟩)
 refine hKt.out _ _ ?_ (fun hT => ?_)
 ·(exact ⟨below_cell hb1 (show w.drew.cell? _ = _ from hs0), below_cell hb1 (show w.drew.cell? _ = _ from hs1), below_cell hb1 (show w.drew.cell? _ = _ from hx), below_cell hb1 (show w.drew.cell? _ = _ from hi0)⟩)
 clear hKt Kt hHeld
 have hHeld := hT
 clear hT
 try simp only [Act.put, tkA, tkB, tkC]
 refine tkCall 5 (fun Kt hKt => ?_)
 go_simp
 (go_at_call 65; refine (HC.out _).mono ?_; rintro e w2 ⟨rfl, hb2⟩)
 refine hKt.out _ _ ?_ (fun hT => ?_)
 ·(exact ⟨below_cell hb2 (below_cell hb1 (show w.drew.cell? _ = _ from hs0)), below_cell hb2 (below_cell hb1 (show w.drew.cell? _ = _ from hs1)), below_cell hb2 (below_cell hb1 (show w.drew.cell? _ = _ from hx)), below_cell hb2 (below_cell hb1 (show w.drew.cell? _ = _ from hi0))⟩)
 clear hKt Kt hHeld
 have hHeld := hT
 clear hT
 try simp only [Act.put, tkA, tkB, tkC]
 refine tkOp 6 hHeld ?_
 refine tkOp 7 hHeld ?_
 refine wpAnyH_done (by kernel_rfl) ?_ _
 have HB := Lib.hid ((Below.refl w.heap.size w).drew.trans (Below.trans hb1 (hb2.mono hb1.size)))
 clear hHeld hb1 hb2
 go_wp2_with fail
 go_ret
 exact ⟨rfl, HB.out⟩
set_option maxHeartbeats 8000000 in
set_option maxRecDepth 100000 in
theorem past2 (J : Jd) (bs bx bf bi F i k j : Nat) (lo hi : Int) (w : World) (h : JW J w) (hs0 : w.cell? ⟨bs, 0, none⟩ = some (.int .i64 lo)) (hs1 : w.cell? ⟨bs, 1, none⟩ = some (.int .i64 hi)) (hx : w.cell? ⟨bx, 0, none⟩ = some (.pointer (some ⟨J.gj, 0, none⟩))) (hf0 : w.cell? ⟨bf, 0, none⟩ = some (.int .i64 ((F : Nat) : Int))) (hi0 : w.cell? ⟨bi, 0, none⟩ = some (.int .i64 ((i : Nat) : Int))) (hj : F + k = j) (hji : j ≤ i) (hin : i < J.n) :
  Calls Tryz.prog 66 #[.int .i64 ((k : Nat) : Int), .pointer (some ⟨bs, 0, none⟩), .pointer (some ⟨bx, 0, none⟩), .pointer (some ⟨bf, 0, none⟩), .pointer (some ⟨bi, 0, none⟩)] w fun e w' => e = .returned (.bool (!(Ival.hasS lo hi ((tmOf J.t).tm i - (tmOf J.t).tm j)))) ∧ Below w.heap.size w w' := by
 have HD := Lib.hid (fun V (hb : Below w.heap.size w V) => landDist J j i V (h.below hb) (by omega) (by omega))
 obtain ⟨D, hD⟩ : ∃ D, (tmOf J.t).tm i - (tmOf J.t).tm j = D := ⟨_, rfl⟩
 have hD6 : D < 18446744073709551616 := by obtain ⟨_, _, _, _, _, _, y1, -⟩ := h.ev (show i < J.n by omega); omega
 rw [hD] at HD ⊢
 have HC := Lib.hid (fun V => Ival.progHas lo hi D V hD6)
 have hn64 := h.hn
 obtain ⟨g, hg⟩ : ∃ g, J.gj = g := ⟨_, rfl⟩
 rw [hg] at hx HD
 have hw : IntKind.i64.wrap (((F : Nat) : Int) + ((k : Nat) : Int)) = ((j : Nat) : Int) := by rw [show ((F : Nat) : Int) + ((k : Nat) : Int) = ((j : Nat) : Int) by omega]; exact wrap_small _ (by omega)
 clear hj
 clear h hD hg hD6
 go_enter Tryz.func66, Tryz.ntmps66
 go_wp2_with fail
 refine wp_region_held_drew (S := fun V => V.cell? ⟨bs, 0, none⟩ = some (.int .i64 lo) ∧ V.cell? ⟨bs, 1, none⟩ = some (.int .i64 hi) ∧ V.cell? ⟨bx, 0, none⟩ = some (.pointer (some ⟨g, 0, none⟩)) ∧ V.cell? ⟨bf, 0, none⟩ = some (.int .i64 ((F : Nat) : Int)) ∧ V.cell? ⟨bi, 0, none⟩ = some (.int .i64 ((i : Nat) : Int))) (by kernel_rfl) ⟨hs0, hs1, hx, hf0, hi0⟩ (fun hHeld => ?_)
 refine tkOp 0 hHeld ?_
 refine tkOp 1 hHeld ?_
 refine tkOp 2 hHeld ?_
 refine tkOp 3 hHeld ?_
 refine tkOp 4 hHeld ?_
 refine tkOp 5 hHeld ?_
 refine tkCall 6 (fun Kt hKt => ?_)
 go_simp
 (go_at_call 60; refine (HD.out _ (Below.refl _ _).drew).mono ?_; rintro e w1 ⟨rfl, hb1⟩)
 refine hKt.out _ _ ?_ (fun hT => ?_)
 ·(exact ⟨below_cell hb1 (show w.drew.cell? _ = _ from hs0), below_cell hb1 (show w.drew.cell? _ = _ from hs1), below_cell hb1 (show w.drew.cell? _ = _ from hx), below_cell hb1 (show w.drew.cell? _ = _ from hf0), below_cell hb1 (show w.drew.cell? _ = _ from hi0)⟩)
 clear hKt Kt hHeld
 have hHeld := hT
 clear hT
 try simp only [Act.put, tkA, tkB, tkC]
 refine tkCall 7 (fun Kt hKt => ?_)
 go_simp
 (go_at_call 59; refine (HC.out _).mono ?_; rintro e w2 ⟨rfl, hb2⟩)
 refine hKt.out _ _ ?_ (fun hT => ?_)
 ·(exact ⟨below_cell hb2 (below_cell hb1 (show w.drew.cell? _ = _ from hs0)), below_cell hb2 (below_cell hb1 (show w.drew.cell? _ = _ from hs1)), below_cell hb2 (below_cell hb1 (show w.drew.cell? _ = _ from hx)), below_cell hb2 (below_cell hb1 (show w.drew.cell? _ = _ from hf0)), below_cell hb2 (below_cell hb1 (show w.drew.cell? _ = _ from hi0))⟩)
 clear hKt Kt hHeld
 have hHeld := hT
 clear hT
 try simp only [Act.put, tkA, tkB, tkC]
 refine tkOp 8 hHeld ?_
 refine tkOp 9 hHeld ?_
 refine wpAnyH_done (by kernel_rfl) ?_ _
 have HB := Lib.hid ((Below.refl w.heap.size w).drew.trans (Below.trans hb1 (hb2.mono hb1.size)))
 clear hHeld hb1 hb2
 go_wp2_with fail
 go_ret
 exact ⟨rfl, HB.out⟩
set_option maxHeartbeats 8000000 in
set_option maxRecDepth 100000 in
theorem fut1 (J : Jd) (bs bx bi i k j : Nat) (lo hi : Int) (w : World) (h : JW J w) (hs0 : w.cell? ⟨bs, 0, none⟩ = some (.int .i64 lo)) (hs1 : w.cell? ⟨bs, 1, none⟩ = some (.int .i64 hi)) (hx : w.cell? ⟨bx, 0, none⟩ = some (.pointer (some ⟨J.gj, 0, none⟩))) (hi0 : w.cell? ⟨bi, 0, none⟩ = some (.int .i64 ((i : Nat) : Int))) (hj : i + k = j) (hin : j < J.n) :
  Calls Tryz.prog 67 #[.int .i64 ((k : Nat) : Int), .pointer (some ⟨bs, 0, none⟩), .pointer (some ⟨bx, 0, none⟩), .pointer (some ⟨bi, 0, none⟩)] w fun e w' => e = .returned (.bool (decide (Ival.classS lo hi ((tmOf J.t).tm j - (tmOf J.t).tm i) < 0))) ∧ Below w.heap.size w w' := by
 have HD := Lib.hid (fun V (hb : Below w.heap.size w V) => landDist J i j V (h.below hb) (by omega) (by omega))
 obtain ⟨D, hD⟩ : ∃ D, (tmOf J.t).tm j - (tmOf J.t).tm i = D := ⟨_, rfl⟩
 have hD6 : D < 18446744073709551616 := by obtain ⟨_, _, _, _, _, _, y1, -⟩ := h.ev (show j < J.n by omega); omega
 rw [hD] at HD ⊢
 have HC := Lib.hid (fun V => Ival.progClass lo hi D V hD6)
 have hn64 := h.hn
 obtain ⟨g, hg⟩ : ∃ g, J.gj = g := ⟨_, rfl⟩
 rw [hg] at hx HD
 have hw : IntKind.i64.wrap (((i : Nat) : Int) + ((k : Nat) : Int)) = ((j : Nat) : Int) := by rw [show ((i : Nat) : Int) + ((k : Nat) : Int) = ((j : Nat) : Int) by omega]; exact wrap_small _ (by omega)
 clear hj
 clear h hD hg hD6
 go_enter Tryz.func67, Tryz.ntmps67
 go_wp2_with fail
 refine wp_region_held_drew (S := fun V => V.cell? ⟨bs, 0, none⟩ = some (.int .i64 lo) ∧ V.cell? ⟨bs, 1, none⟩ = some (.int .i64 hi) ∧ V.cell? ⟨bx, 0, none⟩ = some (.pointer (some ⟨g, 0, none⟩)) ∧ V.cell? ⟨bi, 0, none⟩ = some (.int .i64 ((i : Nat) : Int))) (by kernel_rfl) ⟨hs0, hs1, hx, hi0⟩ (fun hHeld => ?_)
 refine tkOp 0 hHeld ?_
 refine tkOp 1 hHeld ?_
 refine tkOp 2 hHeld ?_
 refine tkOp 3 hHeld ?_
 refine tkOp 4 hHeld ?_
 refine tkOp 5 hHeld ?_
 refine tkCall 6 (fun Kt hKt => ?_)
 go_simp
 (go_at_call 60; refine (HD.out _ (Below.refl _ _).drew).mono ?_; rintro e w1 ⟨rfl, hb1⟩)
 refine hKt.out _ _ ?_ (fun hT => ?_)
 ·(exact ⟨below_cell hb1 (show w.drew.cell? _ = _ from hs0), below_cell hb1 (show w.drew.cell? _ = _ from hs1), below_cell hb1 (show w.drew.cell? _ = _ from hx), below_cell hb1 (show w.drew.cell? _ = _ from hi0)⟩)
 clear hKt Kt hHeld
 have hHeld := hT
 clear hT
 try simp only [Act.put, tkA, tkB, tkC]
 refine tkCall 7 (fun Kt hKt => ?_)
 go_simp
 (go_at_call 65; refine (HC.out _).mono ?_; rintro e w2 ⟨rfl, hb2⟩)
 refine hKt.out _ _ ?_ (fun hT => ?_)
 ·(exact ⟨below_cell hb2 (below_cell hb1 (show w.drew.cell? _ = _ from hs0)), below_cell hb2 (below_cell hb1 (show w.drew.cell? _ = _ from hs1)), below_cell hb2 (below_cell hb1 (show w.drew.cell? _ = _ from hx)), below_cell hb2 (below_cell hb1 (show w.drew.cell? _ = _ from hi0))⟩)
 clear hKt Kt hHeld
 have hHeld := hT
 clear hT
 try simp only [Act.put, tkA, tkB, tkC]
 refine tkOp 8 hHeld ?_
 refine tkOp 9 hHeld ?_
 refine wpAnyH_done (by kernel_rfl) ?_ _
 have HB := Lib.hid ((Below.refl w.heap.size w).drew.trans (Below.trans hb1 (hb2.mono hb1.size)))
 clear hHeld hb1 hb2
 go_wp2_with fail
 go_ret
 exact ⟨rfl, HB.out⟩
set_option maxHeartbeats 8000000 in
set_option maxRecDepth 100000 in
theorem fut2 (J : Jd) (bs bx bi i k j : Nat) (lo hi : Int) (w : World) (h : JW J w) (hs0 : w.cell? ⟨bs, 0, none⟩ = some (.int .i64 lo)) (hs1 : w.cell? ⟨bs, 1, none⟩ = some (.int .i64 hi)) (hx : w.cell? ⟨bx, 0, none⟩ = some (.pointer (some ⟨J.gj, 0, none⟩))) (hi0 : w.cell? ⟨bi, 0, none⟩ = some (.int .i64 ((i : Nat) : Int))) (hj : i + k = j) (hin : j < J.n) :
  Calls Tryz.prog 68 #[.int .i64 ((k : Nat) : Int), .pointer (some ⟨bs, 0, none⟩), .pointer (some ⟨bx, 0, none⟩), .pointer (some ⟨bi, 0, none⟩)] w fun e w' => e = .returned (.bool (Ival.hasS lo hi ((tmOf J.t).tm j - (tmOf J.t).tm i))) ∧ Below w.heap.size w w' := by
 have HD := Lib.hid (fun V (hb : Below w.heap.size w V) => landDist J i j V (h.below hb) (by omega) (by omega))
 obtain ⟨D, hD⟩ : ∃ D, (tmOf J.t).tm j - (tmOf J.t).tm i = D := ⟨_, rfl⟩
 have hD6 : D < 18446744073709551616 := by obtain ⟨_, _, _, _, _, _, y1, -⟩ := h.ev (show j < J.n by omega); omega
 rw [hD] at HD ⊢
 have HC := Lib.hid (fun V => Ival.progHas lo hi D V hD6)
 have hn64 := h.hn
 obtain ⟨g, hg⟩ : ∃ g, J.gj = g := ⟨_, rfl⟩
 rw [hg] at hx HD
 have hw : IntKind.i64.wrap (((i : Nat) : Int) + ((k : Nat) : Int)) = ((j : Nat) : Int) := by rw [show ((i : Nat) : Int) + ((k : Nat) : Int) = ((j : Nat) : Int) by omega]; exact wrap_small _ (by omega)
 clear hj
 clear h hD hg hD6
 go_enter Tryz.func68, Tryz.ntmps68
 go_wp2_with fail
 refine wp_region_held_drew (S := fun V => V.cell? ⟨bs, 0, none⟩ = some (.int .i64 lo) ∧ V.cell? ⟨bs, 1, none⟩ = some (.int .i64 hi) ∧ V.cell? ⟨bx, 0, none⟩ = some (.pointer (some ⟨g, 0, none⟩)) ∧ V.cell? ⟨bi, 0, none⟩ = some (.int .i64 ((i : Nat) : Int))) (by kernel_rfl) ⟨hs0, hs1, hx, hi0⟩ (fun hHeld => ?_)
 refine tkOp 0 hHeld ?_
 refine tkOp 1 hHeld ?_
 refine tkOp 2 hHeld ?_
 refine tkOp 3 hHeld ?_
 refine tkOp 4 hHeld ?_
 refine tkOp 5 hHeld ?_
 refine tkCall 6 (fun Kt hKt => ?_)
 go_simp
 (go_at_call 60; refine (HD.out _ (Below.refl _ _).drew).mono ?_; rintro e w1 ⟨rfl, hb1⟩)
 refine hKt.out _ _ ?_ (fun hT => ?_)
 ·(exact ⟨below_cell hb1 (show w.drew.cell? _ = _ from hs0), below_cell hb1 (show w.drew.cell? _ = _ from hs1), below_cell hb1 (show w.drew.cell? _ = _ from hx), below_cell hb1 (show w.drew.cell? _ = _ from hi0)⟩)
 clear hKt Kt hHeld
 have hHeld := hT
 clear hT
 try simp only [Act.put, tkA, tkB, tkC]
 refine tkCall 7 (fun Kt hKt => ?_)
 go_simp
 (go_at_call 59; refine (HC.out _).mono ?_; rintro e w2 ⟨rfl, hb2⟩)
 refine hKt.out _ _ ?_ (fun hT => ?_)
 ·(exact ⟨below_cell hb2 (below_cell hb1 (show w.drew.cell? _ = _ from hs0)), below_cell hb2 (below_cell hb1 (show w.drew.cell? _ = _ from hs1)), below_cell hb2 (below_cell hb1 (show w.drew.cell? _ = _ from hx)), below_cell hb2 (below_cell hb1 (show w.drew.cell? _ = _ from hi0))⟩)
 clear hKt Kt hHeld
 have hHeld := hT
 clear hT
 try simp only [Act.put, tkA, tkB, tkC]
 refine tkOp 8 hHeld ?_
 refine wpAnyH_done (by kernel_rfl) ?_ _
 have HB := Lib.hid ((Below.refl w.heap.size w).drew.trans (Below.trans hb1 (hb2.mono hb1.size)))
 clear hHeld hb1 hb2
 go_wp2_with fail
 go_ret
 exact ⟨rfl, HB.out⟩
end Go.Proofs.YtdbgaccnejffpaaGreatDoor.Sat

namespace Go.Proofs.YtdbgaccnejffpaaGreatDoor.Sat
open Go.RowKit Go.Proofs.YtdbgaccnejffpaaGreatDoor.Ints Go.Proofs.YtdbgaccnejffpaaGreatDoor.Mem Go.Proofs.YtdbgaccnejffpaaGreatDoor.Src Go.Proofs.YtdbgaccnejffpaaGreatDoor.Paths Go.Proofs.YtdbgaccnejffpaaGreatDoor.Late Go.Proofs.YtdbgaccnejffpaaGreatDoor.Trace
theorem infoSt : (Tryz.prog.info? 93).map (fun i => (i.zero, i.size, i.bytes)) = some (some (.agg #[.int .i64 0, .int .i64 0]), 2, 16) := by kernel_rfl
theorem made_st (n : Nat) : (madeCells (Value.agg #[.int .i64 0, .int .i64 0]).cells (n * 2)).toList = List.replicate (n * 2) (.int .i64 0) := by
 have e : (Value.agg #[.int .i64 0, .int .i64 0]).cells = #[.int .i64 0, .int .i64 0] := rfl
 rw [e]
 apply List.ext_getElem
 ·simp [madeCells]
 ·intro i h1 h2
  have : i % 2 = 0 ∨ i % 2 = 1 := by omega
  rcases this with h | h <;> simp [madeCells, h]
def sg (s t : Nat → Nat) (q : Nat) : Nat := if q % 2 = 0 then s (q / 2) else t (q / 2)
theorem sg_even (s t : Nat → Nat) (j : Nat) : sg s t (j * 2) = s j := by unfold sg; rw [if_pos (by omega), show j * 2 / 2 = j by omega]
theorem sg_odd (s t : Nat → Nat) (j : Nat) : sg s t (j * 2 + 1) = t j := by unfold sg; rw [if_neg (by omega), show (j * 2 + 1) / 2 = j by omega]
def upd (s : Nat → Nat) (i x : Nat) (j : Nat) : Nat := if j = i then x else s j
theorem upd_at (s : Nat → Nat) (i x : Nat) : upd s i x i = x := if_pos rfl
theorem upd_off (s : Nat → Nat) {i j : Nat} (x : Nat) (h : j ≠ i) : upd s i x j = s j := if_neg h
def OS (w : World) (lo b n : Nat) (s t : Nat → Nat) : Prop := w.ownsRow lo 93 2 (.slice (some ⟨b, 0, none⟩) n n) n (il (n * 2) (sg s t))
theorem OS.rs {w : World} {lo b n : Nat} {s t : Nat → Nat} (h : OS w lo b n s t) : RS w b n s t := fun j hj => by
 have h1 := World.ownsRow.cells h (g := b) rfl (j * 2) _ (il_at (by omega))
 have h2 := World.ownsRow.cells h (g := b) rfl (j * 2 + 1) _ (il_at (by omega))
 rw [Addr.add_lit, Nat.zero_add, sg_even] at h1
 rw [Addr.add_lit, Nat.zero_add, sg_odd] at h2
 exact ⟨h1, h2⟩
theorem OS.lt {w : World} {lo b n : Nat} {s t : Nat → Nat} (h : OS w lo b n s t) : lo ≤ b ∧ b < w.heap.size := World.ownsRow.lt h b rfl
theorem OS.below {w w' : World} {lo b n : Nat} {s t : Nat → Nat} (h : OS w lo b n s t) (hb : Below w.heap.size w w') : OS w' lo b n s t := below_row h hb
theorem OS.put1 {w : World} {lo b n : Nat} {s t : Nat → Nat} (h : OS w lo b n s t) {i : Nat} (hi : i < n) (x : Nat) : OS (w.setCell ⟨b, i * 2, none⟩ (.int .i64 ((x : Nat) : Int))) lo b n (upd s i x) t := by
 have h1 := own_put (k := i * 2) h (.int .i64 ((x : Nat) : Int))
 rw [il_set (g' := sg (upd s i x) t) (by omega) (by rw [sg_even, upd_at]) (fun j hj hne => by
  unfold sg
  by_cases e : j % 2 = 0
  ·rw [if_pos e, if_pos e, upd_off _ _ (by omega)]
  ·rw [if_neg e, if_neg e])] at h1
 exact h1
theorem OS.put2 {w : World} {lo b n : Nat} {s t : Nat → Nat} (h : OS w lo b n s t) {i : Nat} (hi : i < n) (x : Nat) : OS (w.setCell ⟨b, i * 2 + 1, none⟩ (.int .i64 ((x : Nat) : Int))) lo b n s (upd t i x) := by
 have h1 := own_put (k := i * 2 + 1) h (.int .i64 ((x : Nat) : Int))
 rw [il_set (g' := sg s (upd t i x)) (by omega) (by rw [sg_odd, upd_at]) (fun j hj hne => by
  unfold sg
  by_cases e : j % 2 = 0
  ·rw [if_pos e, if_pos e]
  ·rw [if_neg e, if_neg e, upd_off _ _ (by omega)])] at h1
 exact h1
def GotS (w : World) (n : Nat) (Q : (Nat → Nat) → (Nat → Nat) → Prop) (e : Ending) (w' : World) : Prop := ∃ b s t, e = .returned (.slice (some ⟨b, 0, none⟩) n n) ∧ OS w' w.heap.size b n s t ∧ Q s t ∧ Below w.heap.size w w'
theorem class_in {lo hi : Int} (h : Ival.mayS lo hi = true) (d : Nat) : 0 ≤ Ival.classS lo hi d ↔ (hi = -1 ∨ (d : Int) ≤ hi) := by
 have hp := Ival.may_parts h
 unfold Ival.classS
 rw [if_pos h]
 split
 ·omega
 ·split <;> omega
theorem has_in {lo hi : Int} (h : Ival.mayS lo hi = true) (d : Nat) : Ival.hasS lo hi d = true ↔ lo ≤ (d : Int) ∧ (hi = -1 ∨ (d : Int) ≤ hi) := by
 unfold Ival.hasS
 rw [h, Bool.true_and, decide_eq_true_eq]
def PastS (T : Tm) (lo hi : Int) (j a b : Nat) : Prop := a ≤ j ∧ a ≤ b ∧ b ≤ j + 1 ∧ (∀ q, q ≤ j → (a ≤ q ↔ (hi = -1 ∨ ((T.tm j - T.tm q : Nat) : Int) ≤ hi))) ∧ ∀ q, q ≤ j → (a ≤ q ∧ q < b ↔ T.near lo hi q j)
def FutS (T : Tm) (lo hi : Int) (j a b : Nat) : Prop := j ≤ a ∧ a ≤ b ∧ j < b ∧ b ≤ T.n ∧ (∀ q, j ≤ q → q < T.n → (q < b ↔ (hi = -1 ∨ ((T.tm q - T.tm j : Nat) : Int) ≤ hi))) ∧ ∀ q, j ≤ q → q < T.n → (a ≤ q ∧ q < b ↔ T.near lo hi j q)
theorem past_of {T : Tm} {lo hi : Int} (hs : Ival.mayS lo hi = true) {j a k : Nat} (ha : a ≤ j) (h1 : ∀ q, q < a → decide (0 ≤ Ival.classS lo hi (T.tm j - T.tm q)) = false) (h2 : ∀ q, a ≤ q → q < j → decide (0 ≤ Ival.classS lo hi (T.tm j - T.tm q)) = true)
  (hk : k ≤ j + 1 - a) (h3 : ∀ q, q < k → (!(Ival.hasS lo hi (T.tm j - T.tm (a + q)))) = false) (h4 : ∀ q, k ≤ q → q < j + 1 - a → (!(Ival.hasS lo hi (T.tm j - T.tm (a + q)))) = true) : PastS T lo hi j a (a + k) := by
 have hp := Ival.may_parts hs
 have hc : ∀ q, q ≤ j → (a ≤ q ↔ (hi = -1 ∨ ((T.tm j - T.tm q : Nat) : Int) ≤ hi)) := fun q hq => by
  rw [← class_in hs]
  constructor
  ·intro h
   by_cases e : q = j
   ·rw [e, Nat.sub_self, class_in hs]
    omega
   ·exact of_decide_eq_true (h2 q h (by omega))
  ·intro h
   rcases Nat.lt_or_ge q a with h5 | h5
   ·exact absurd h (of_decide_eq_false (h1 q h5))
   ·exact h5
 refine ⟨ha, by omega, by omega, hc, fun q hq => ?_⟩
 show _ ↔ Ival.hasS lo hi (T.tm j - T.tm q) = true
 constructor
 ·rintro ⟨g1, g2⟩
  have := h3 (q - a) (by omega)
  rw [show a + (q - a) = q by omega] at this
  simpa using this
 ·intro h
  have g1 : a ≤ q := (hc q hq).2 ((has_in hs _).1 h).2
  refine ⟨g1, ?_⟩
  rcases Nat.lt_or_ge q (a + k) with g2 | g2
  ·exact g2
  ·have := h4 (q - a) (by omega) (by omega)
   rw [show a + (q - a) = q by omega, h] at this
   cases this
theorem fut_of {T : Tm} {lo hi : Int} (hs : Ival.mayS lo hi = true) {j k m : Nat} (hj : j < T.n) (hk : k ≤ T.n - j) (h1 : ∀ q, q < k → decide (Ival.classS lo hi (T.tm (j + q) - T.tm j) < 0) = false) (h2 : ∀ q, k ≤ q → q < T.n - j → decide (Ival.classS lo hi (T.tm (j + q) - T.tm j) < 0) = true)
  (hm : m ≤ k) (h3 : ∀ q, q < m → Ival.hasS lo hi (T.tm (j + q) - T.tm j) = false) (h4 : ∀ q, m ≤ q → q < k → Ival.hasS lo hi (T.tm (j + q) - T.tm j) = true) : FutS T lo hi j (j + m) (j + k) := by
 have hp := Ival.may_parts hs
 have hc : ∀ q, j ≤ q → q < T.n → (q < j + k ↔ (hi = -1 ∨ ((T.tm q - T.tm j : Nat) : Int) ≤ hi)) := fun q h5 h6 => by
  rw [← class_in hs]
  constructor
  ·intro h
   have := of_decide_eq_false (h1 (q - j) (by omega))
   rw [show j + (q - j) = q by omega] at this
   omega
  ·intro h
   rcases Nat.lt_or_ge q (j + k) with h7 | h7
   ·exact h7
   ·have := of_decide_eq_true (h2 (q - j) (by omega) (by omega))
    rw [show j + (q - j) = q by omega] at this
    omega
 have hjk : j < j + k := (hc j (Nat.le_refl _) hj).2 (by rw [Nat.sub_self]; omega)
 refine ⟨by omega, by omega, hjk, by omega, hc, fun q h5 h6 => ?_⟩
 show _ ↔ Ival.hasS lo hi (T.tm q - T.tm j) = true
 constructor
 ·rintro ⟨g1, g2⟩
  have := h4 (q - j) (by omega) (by omega)
  rwa [show j + (q - j) = q by omega] at this
 ·intro h
  have g2 : q < j + k := (hc q h5 h6).2 ((has_in hs _).1 h).2
  refine ⟨?_, g2⟩
  rcases Nat.lt_or_ge q (j + m) with g1 | g1
  ·have := h3 (q - j) (by omega)
   rw [show j + (q - j) = q by omega, h] at this
   cases this
  ·exact g1
theorem past_mono {T : Tm} {lo hi : Int} (hT : ∀ i j, i ≤ j → j < T.n → T.tm i ≤ T.tm j) {i j a b a' b' : Nat} (hij : i ≤ j) (hj : j < T.n) (h : PastS T lo hi i a b) (h' : PastS T lo hi j a' b') : a ≤ a' := by
 rcases Nat.lt_or_ge a' a with g | g
 ·have h1 := h.1
  have h2 := (h'.2.2.2.1 a' (by omega)).1 (Nat.le_refl _)
  have h3 : a ≤ a' := (h.2.2.2.1 a' (by omega)).2 (h2.imp id fun h2 => by have := hT i j hij hj; omega)
  omega
 ·exact g
theorem fut_mono {T : Tm} {lo hi : Int} (hT : ∀ i j, i ≤ j → j < T.n → T.tm i ≤ T.tm j) {i j a b a' b' : Nat} (hij : i ≤ j) (hj : j < T.n) (h : FutS T lo hi i a b) (h' : FutS T lo hi j a' b') : b ≤ b' := by
 rcases Nat.lt_or_ge b' b with g | g
 ·have h1 := h'.2.2.1
  have h2 := h.2.2.2.1
  have h3 := (h.2.2.2.2.1 b' (by omega) (by omega)).1 g
  have h4 := (h'.2.2.2.2.1 b' (by omega) (by omega)).2 (h3.imp id fun h3 => by have := hT i j hij hj; omega)
  omega
 ·exact g
end Go.Proofs.YtdbgaccnejffpaaGreatDoor.Sat
