/-
  The law's one, two, not, alike: formulas told by their trees (stage 15). By an AI agent.
  The walk of the reference's Add. By an AI agent.
  The law's awake (stage 15). By an AI agent.
-/
import Derived.Test.YtdbgaccnejffpaaGreatDoorGSatDual36
import Derived.Test.YtdbgaccnejffpaaGreatDoorGSatDual11
import Derived.Test.YtdbgaccnejffpaaGreatDoorGSatDual13
import Derived.Test.YtdbgaccnejffpaaGreatDoorGSatDual20
import Derived.Test.YtdbgaccnejffpaaGreatDoorGSatDual16
import Derived.Test.YtdbgaccnejffpaaGreatDoorGSatDual1
import Derived.Test.YtdbgaccnejffpaaGreatDoorGSatDual12
namespace Go.Proofs.YtdbgaccnejffpaaGreatDoor.Sat
open Go.RowKit Go.Proofs.YtdbgaccnejffpaaGreatDoor.Ints Go.Proofs.YtdbgaccnejffpaaGreatDoor.Mem Go.Proofs.YtdbgaccnejffpaaGreatDoor.Src Go.Proofs.YtdbgaccnejffpaaGreatDoor.Paths Go.Proofs.YtdbgaccnejffpaaGreatDoor.Late Go.Proofs.YtdbgaccnejffpaaGreatDoor.Trace
def ndO (k lo hi : Int) : Tree.Nd := ⟨k, ⟨#[]⟩, lo, hi, []⟩
def FL (w : World) (A : Option Addr) (n c : Nat) (fm : Bool) (f : Fo) : Prop :=
 ∃ l, Tree.Nodes Tree.Any w A l ∧ l.length = n ∧ (n ≤ c ∧ c ≤ maxLen) ∧ Tree.mayL l = true ∧ Tree.regKind (Tree.lastKind l) = !fm ∧ foOf l = f
theorem FL.below {w w' : World} {A : Option Addr} {n c : Nat} {fm : Bool} {f : Fo} (h : FL w A n c fm f) (hb : Below w.heap.size w w') : FL w' A n c fm f := by
 obtain ⟨l, h1, h2⟩ := h
 exact ⟨l, h1.below hb, h2⟩
def GotFL (w : World) (N : Nat) (fm : Bool) (f : Fo) (e : Ending) (w' : World) : Prop := ∃ A n c, e = .returned (.slice A n c) ∧ FL w' A n c fm f ∧ n ≤ N ∧ Below w.heap.size w w'
theorem ndO_small {k lo hi : Int} (h : Tree.fieldsB (ndO k lo hi) = true) : Tree.small64 k := by
 unfold Tree.fieldsB at h
 rw [Bool.and_eq_true] at h
 have hr : 1 ≤ k ∧ k ≤ 22 := (Tree.kinds_range k).1 h.1
 unfold Tree.small64
 omega
theorem ndO_reg {k lo hi : Int} (h : Tree.fieldsB (ndO k lo hi) = true) : Tree.regKind k = !(Tree.formKind k) := by
 unfold Tree.fieldsB at h
 rw [Bool.and_eq_true] at h
 have hr : 1 ≤ k ∧ k ≤ 22 := (Tree.kinds_range k).1 h.1
 rw [Tree.form_reg hr, Bool.not_not]
theorem ndO_ok (w : World) {k lo hi : Int} (h : Tree.fieldsB (ndO k lo hi) = true) (hs : Tree.small64 lo ∧ Tree.small64 hi) : Tree.NodeOk w (ndO k lo hi) none 0 :=
 ⟨ndO_small h, hs.1, hs.2, (by decide : (0 : Nat) ≤ maxLen), Rd.nil _ _ _, Nat.le_refl _, by decide⟩
section
variable {kd lo hi : Int} {A B : Option Addr} {n m c d : Nat} {fm : Bool} {f g : Fo} {w : World}
set_option maxHeartbeats 4000000 in
set_option maxRecDepth 100000 in
theorem lawOneF (hF : FL w A n c fm f) (hn : n ≤ 1000) (hk : Tree.kidc kd = 1) (hf : Tree.fieldsB (ndO kd lo hi) = true) (ht : Tree.takesReg kd = !fm) (hs : Tree.small64 lo ∧ Tree.small64 hi) :
  Calls Tryz.prog 9 #[.int .i64 kd, .agg #[.int .i64 lo, .int .i64 hi], .slice A n c] w (GotFL w (n + 1) (Tree.formKind kd) (.o kd lo hi f)) := by
 obtain ⟨l, hN, hl, hc, hm, hr, hfo⟩ := hF
 obtain ⟨W, hW⟩ : ∃ W, w.alloc (.cells #[.int .i64 lo, .int .i64 hi] 33) = W := ⟨_, rfl⟩
 have hbW : Below w.heap.size w W := by rw [← hW]; exact (Below.refl _ _).alloc (Nat.le_refl _) _
 have d0 : W.cell? ⟨w.heap.size, 0, none⟩ = some (.int .i64 lo) := by rw [← hW]; exact box_cell 0 _ rfl
 have d1 : W.cell? ⟨w.heap.size, 1, none⟩ = some (.int .i64 hi) := by rw [← hW]; exact box_cell 1 _ rfl
 have HOV := Lib.hid (Tree.refOver (ndO kd lo hi) none 0 A none n 0 c 0 l [] Tree.Any W hl rfl (by omega) (by decide) (ndO_ok W hf hs) (hN.below hbW) (Tree.Nodes.nil _ _ _) Tree.movable_nil)
 have HP := Lib.hid (show Tree.mayL (Tree.overL (ndO kd lo hi) l []) = true ∧ Tree.regKind (Tree.lastKind (Tree.overL (ndO kd lo hi) l [])) = !(Tree.formKind kd) ∧ foOf (Tree.overL (ndO kd lo hi) l []) = .o kd lo hi f ∧ (Tree.overL (ndO kd lo hi) l []).length = n + 1 from
  ⟨Tree.may_over1 hk hf hm (hr.trans ht.symm), by rw [last_over]; exact ndO_reg hf, by rw [foOf_one hm hk, hfo]; rfl, by rw [Paths.over_len, hl]; rfl⟩)
 have HB := Lib.hid hbW
 clear hN hl hc hm hr hfo hbW
 go_enter Tryz.func9, Tryz.ntmps9
 go_wp2_with fail
 refine HOV.out.mono ?_
 rintro e w1 ⟨A1, c1, rfl, h1, h2, h3, h4⟩
 have HX := Lib.hid (And.intro (h1.mono (S' := Tree.Any) fun _ _ _ => trivial) (And.intro h2 (And.intro h3 (HB.out.trans (h4.mono HB.out.size)))))
 clear h1 h2 h3 h4
 go_wp2_with fail
 go_ret
 exact ⟨A1, _, c1, rfl, ⟨_, HX.out.1, rfl, ⟨HX.out.2.1, HX.out.2.2.1⟩, HP.out.1, HP.out.2.1, HP.out.2.2.1⟩, Nat.le_of_eq HP.out.2.2.2, HX.out.2.2.2⟩
set_option maxHeartbeats 4000000 in
set_option maxRecDepth 100000 in
theorem lawTwoF (hF : FL w A n c fm f) (hG : FL w B m d fm g) (hn : n ≤ 1000) (hm0 : m ≤ 1000) (hk : Tree.kidc kd = 2) (hf : Tree.fieldsB (ndO kd lo hi) = true) (ht : Tree.takesReg kd = !fm) (hs : Tree.small64 lo ∧ Tree.small64 hi) :
  Calls Tryz.prog 11 #[.int .i64 kd, .agg #[.int .i64 lo, .int .i64 hi], .slice A n c, .slice B m d] w (GotFL w (n + m + 1) (Tree.formKind kd) (.t kd lo hi f g)) := by
 obtain ⟨l, hN, hl, hc, hm, hr, hfo⟩ := hF
 obtain ⟨l2, hN2, hl2, hc2, hm2, hr2, hfo2⟩ := hG
 obtain ⟨W, hW⟩ : ∃ W, w.alloc (.cells #[.int .i64 lo, .int .i64 hi] 33) = W := ⟨_, rfl⟩
 have hbW : Below w.heap.size w W := by rw [← hW]; exact (Below.refl _ _).alloc (Nat.le_refl _) _
 have d0 : W.cell? ⟨w.heap.size, 0, none⟩ = some (.int .i64 lo) := by rw [← hW]; exact box_cell 0 _ rfl
 have d1 : W.cell? ⟨w.heap.size, 1, none⟩ = some (.int .i64 hi) := by rw [← hW]; exact box_cell 1 _ rfl
 have HOV := Lib.hid (Tree.refOver (ndO kd lo hi) none 0 A B n m c d l l2 Tree.Any W hl hl2 (by omega) (by omega) (ndO_ok W hf hs) (hN.below hbW) (hN2.below hbW) (Tree.movable_may hm2 (by omega)))
 have HP := Lib.hid (show Tree.mayL (Tree.overL (ndO kd lo hi) l l2) = true ∧ Tree.regKind (Tree.lastKind (Tree.overL (ndO kd lo hi) l l2)) = !(Tree.formKind kd) ∧ foOf (Tree.overL (ndO kd lo hi) l l2) = .t kd lo hi f g ∧ (Tree.overL (ndO kd lo hi) l l2).length = n + m + 1 from
  ⟨Tree.may_over2 hk hf hm hm2 (hr.trans ht.symm) (hr2.trans ht.symm), by rw [last_over]; exact ndO_reg hf, by rw [foOf_two hm hm2 hk, hfo, hfo2]; rfl, by rw [Paths.over_len, hl, hl2]⟩)
 have HB := Lib.hid hbW
 clear hN hl hc hm hr hfo hN2 hl2 hc2 hm2 hr2 hfo2 hbW
 go_enter Tryz.func11, Tryz.ntmps11
 go_wp2_with fail
 refine HOV.out.mono ?_
 rintro e w1 ⟨A1, c1, rfl, h1, h2, h3, h4⟩
 have HX := Lib.hid (And.intro (h1.mono (S' := Tree.Any) fun _ _ _ => trivial) (And.intro h2 (And.intro h3 (HB.out.trans (h4.mono HB.out.size)))))
 clear h1 h2 h3 h4
 go_wp2_with fail
 go_ret
 exact ⟨A1, _, c1, rfl, ⟨_, HX.out.1, rfl, ⟨HX.out.2.1, HX.out.2.2.1⟩, HP.out.1, HP.out.2.1, HP.out.2.2.1⟩, Nat.le_of_eq HP.out.2.2.2, HX.out.2.2.2⟩
def NoneV (w : World) : Prop := w.cell? ⟨0, 0, none⟩ = some (.int .i64 0) ∧ w.cell? ⟨0, 1, none⟩ = some (.int .i64 0)
theorem NoneV.below {w' : World} (h : NoneV w) (hb : Below w.heap.size w w') : NoneV w' := ⟨below_cell hb h.1, below_cell hb h.2⟩
theorem small0 : Tree.small64 0 ∧ Tree.small64 0 := by unfold Tree.small64; omega
set_option maxRecDepth 100000 in
theorem lawNotF (hF : FL w A n c true f) (hn : n ≤ 1000) (hv : NoneV w) :
  Calls Tryz.prog 10 #[.slice A n c] w (GotFL w (n + 1) true (.o 4 0 0 f)) := by
 have HC := Lib.hid (lawOneF (kd := 4) (lo := 0) (hi := 0) hF hn (by decide) (by decide) (by decide) small0)
 obtain ⟨v0, v1⟩ := hv
 clear hF
 go_enter Tryz.func10, Tryz.ntmps10
 go_wp2_with fail
 refine HC.out.mono ?_
 rintro e w1 ⟨A1, n1, c1, rfl, h1, h2, h3⟩
 have HX := Lib.hid (And.intro h1 (And.intro h2 h3))
 clear h1 h2 h3 v0 v1
 go_wp2_with fail
 go_ret
 exact ⟨A1, n1, c1, rfl, HX.out.1, HX.out.2.1, HX.out.2.2⟩
end
set_option maxHeartbeats 4000000 in
set_option maxRecDepth 100000 in
theorem lawAlikeF (NA : Option Addr) (nn nc : Nat) (EA : Option Addr) (ne ec : Nat) (t : Tr) {A B : Option Addr} {n m c d : Nat} {f g : Fo} {w : World} (hT : TrOk Any w NA nn nc EA ne ec t) (hmt : mayT t = true) (he : ne ≤ 64) (hF : FL w A n c true f) (hG : FL w B m d true g) (hn : n ≤ 1000) (hm0 : m ≤ 1000) (hs : Same (tmOf t) f g) :
  Calls Tryz.prog 8 #[.agg #[.slice NA nn nc, .slice EA ne ec], .slice A n c, .slice B m d] w fun e w' => e = .returned (.bool true) ∧ Below w.heap.size w w' := by
 obtain ⟨l, hN, hl, hc, hm, hr, hfo⟩ := hF
 obtain ⟨l2, hN2, hl2, hc2, hm2, hr2, hfo2⟩ := hG
 have key : ∀ {l : List Tree.Nd}, Tree.mayL l = true → Tree.regKind (Tree.lastKind l) = !true → Tree.formL l = true := fun {l} h1 h2 => by
  unfold Tree.formL
  rw [h1, Tree.form_reg (Tree.last_range h1), h2]
  rfl
 obtain ⟨W, hW⟩ : ∃ W, w.alloc (.cells #[.slice NA nn nc, .slice EA ne ec] 28) = W := ⟨_, rfl⟩
 have hbW : Below w.heap.size w W := by rw [← hW]; exact (Below.refl _ _).alloc (Nat.le_refl _) _
 have d0 : W.cell? ⟨w.heap.size, 0, none⟩ = some (.slice NA nn nc) := by rw [← hW]; exact box_cell 0 _ rfl
 have d1 : W.cell? ⟨w.heap.size, 1, none⟩ = some (.slice EA ne ec) := by rw [← hW]; exact box_cell 1 _ rfl
 have hA1 := landAll NA nn nc EA ne ec t A n c l W (hT.below hbW) (hN.below hbW) hl hc hn he
 have hA2 := fun V (hb : Below W.heap.size W V) => landAll NA nn nc EA ne ec t B m d l2 V ((hT.below hbW).below hb) ((hN2.below hbW).below hb) hl2 hc2 hm0 he
 rw [hmt, key hm hr, Bool.and_true] at hA1
 rw [hmt, key hm2 hr2, Bool.and_true] at hA2
 have HA1 := Lib.hid hA1
 have HA2 := Lib.hid hA2
 have HE := Lib.hid (show ∀ p, p < ne → tb t l2 p = tb t l p from fun p hp => by
  rw [Bool.eq_iff_iff, tb_iff, tb_iff, hfo, hfo2]
  exact (hs p (by show p < t.events.length; rw [hT.elen]; exact hp)).symm)
 have HB := Lib.hid hbW
 clear hT hmt hN hl hc hm hr hfo hN2 hl2 hc2 hm2 hr2 hfo2 hbW hA1 hA2 hs
 go_enter Tryz.func8, Tryz.ntmps8
 go_wp2_with fail
 refine HA1.out.mono ?_
 rintro e w1 ⟨hb1, he1⟩
 rw [if_pos trivial] at he1
 obtain ⟨b1, rfl, ho1⟩ := he1
 have z0 := below_cell hb1 d0
 have z1 := below_cell hb1 d1
 have HB1 := Lib.hid hb1
 have HO1 := Lib.hid ho1.rb
 clear hb1 ho1 d0 d1
 go_wp2_with fail
 refine (HA2.out _ HB1.out).mono ?_
 rintro e w2 ⟨hb2, he2⟩
 rw [if_pos trivial] at he2
 obtain ⟨b2, rfl, ho2⟩ := he2
 have HB2 := Lib.hid (HB1.out.trans (hb2.mono HB1.out.size))
 have HO3 := Lib.hid (HO1.out.below hb2)
 have HO2 := Lib.hid ho2.rb
 clear hb2 ho2 z0 z1
 go_wp2_with fail
 refine (eqBools b1 0 ne b2 0 ne ne (tb t l) _ (by omega) (fun j hj => by rw [Nat.zero_add]; exact HO3.out j hj) (fun j hj => by rw [Nat.zero_add, HO2.out j hj, HE.out j hj])).mono ?_
 rintro e w3 ⟨rfl, hb3⟩
 have HB3 := Lib.hid (HB2.out.trans (hb3.mono HB2.out.size))
 clear hb3
 go_wp2_with fail
 go_ret
 exact ⟨rfl, HB.out.trans (HB3.out.mono HB.out.size)⟩
end Go.Proofs.YtdbgaccnejffpaaGreatDoor.Sat

namespace Go.Proofs.YtdbgaccnejffpaaGreatDoor.Trace
open Go.RowKit Go.Proofs.YtdbgaccnejffpaaGreatDoor.Ints Go.Proofs.YtdbgaccnejffpaaGreatDoor.Mem
theorem box_evs {S : Nat → Prop} {w : World} {g : Nat} {T : TypeId} {fr : Nat × Nat} {x : Ev} {K : Option Addr} {c : Nat} (h : w.heap[g]? = some (.cells #[.int .u64 x.time, .slice K x.ids.length c] T fr)) (hk : EvOk w x K c) (hS : S g) (hKS : ∀ a, K = some a → 0 < x.ids.length → S a.block) :
  Evs S w (some ⟨g, 0, none⟩) [x] := fun _ => by
 refine ⟨g, 0, rfl, fun j e hj => ?_⟩
 have hj0 : j = 0 := by
  have := (List.getElem?_eq_some_iff.1 hj).1
  simpa using this
 subst hj0
 simp only [List.getElem?_cons_zero, Option.some.injEq] at hj
 subst hj
 exact ⟨by rw [cell_of_row w g _ _ T fr h]; rfl, hk.1, K, c, by rw [cell_of_row w g _ _ T fr h]; rfl, hk.2.1, hk.2.2.1, hk.2.2.2, hS, hKS⟩
theorem set2_cell (W : World) (g : Nat) (u0 u1 : Value) (p : Addr) (hp : p.block ≠ g) : ((W.setCell ⟨g, 0, none⟩ u0).setCell ⟨g, 1, none⟩ u1).cell? p = W.cell? p := by
 rw [World.cell?_of_block (w := W.setCell ⟨g, 0, none⟩ u0) (Below.heap_setCell _ ⟨g, 1, none⟩ u1 p.block hp), World.cell?_of_block (w := W) (Below.heap_setCell _ ⟨g, 0, none⟩ u0 p.block hp)]
end Go.Proofs.YtdbgaccnejffpaaGreatDoor.Trace

namespace Go.Proofs.YtdbgaccnejffpaaGreatDoor.Sat
open Go.RowKit Go.Proofs.YtdbgaccnejffpaaGreatDoor.Ints Go.Proofs.YtdbgaccnejffpaaGreatDoor.Mem Go.Proofs.YtdbgaccnejffpaaGreatDoor.Src Go.Proofs.YtdbgaccnejffpaaGreatDoor.Paths Go.Proofs.YtdbgaccnejffpaaGreatDoor.Late Go.Proofs.YtdbgaccnejffpaaGreatDoor.Trace
def trS : Tr := ⟨[[112]], [⟨3, [0]⟩, ⟨4, []⟩]⟩
def lsP : Tree.Nd := ⟨3, { data := #[112] }, 0, 0, []⟩
def lsS : List Tree.Nd := [lsP, ⟨10, { data := #[] }, 1, 1, [0]⟩]
theorem trS_may : mayT trS = true := by decide +kernel
theorem lsS_form : Tree.formL lsS = true := by decide
theorem lsP_form : Tree.formL [lsP] = true := by decide
theorem foP : foOf [lsP] = .z 3 [112] := by rfl
theorem foS : foOf lsS = .o 10 1 1 (.z 3 [112]) := by rfl
theorem semP (p : Nat) : sem (tmOf trS) (.z 3 [112]) p p ↔ p = 0 := by
 have h0 : holdsT trS 0 [112] = true := by decide +kernel
 have h1 : holdsT trS 1 [112] = false := by decide +kernel
 unfold sem
 rw [if_neg (by decide)]
 unfold leafP tmOf
 constructor
 ·rintro ⟨-, h2, h3⟩
  have h2 : p < 2 := h2
  rcases h3 with h3 | ⟨-, h3⟩
  ·exact absurd h3 (by decide)
  ·rcases (show p = 0 ∨ p = 1 by omega) with rfl | rfl
   ·rfl
   ·have h3 : holdsT trS 1 [112] = true := h3
    rw [h1] at h3
    exact absurd h3 (by decide)
 ·rintro rfl
  exact ⟨rfl, (by decide : 0 < 2), .inr ⟨rfl, h0⟩⟩
theorem semS0 : tb trS lsS 0 = false := by
 rw [Bool.eq_false_iff]
 intro h
 rw [tb_iff, foS] at h
 unfold sem at h
 rw [if_neg (by decide)] at h
 obtain ⟨-, -, h⟩ := h
 unfold oneP at h
 rw [if_neg (by decide), if_neg (by decide), if_neg (by decide), if_pos rfl] at h
 obtain ⟨j, hj, h1, -⟩ := h
 obtain rfl : j = 0 := by omega
 exact absurd h1 (by unfold Tm.near; decide)
theorem semS1 : tb trS lsS 1 = true := by
 rw [tb_iff, foS]
 unfold sem
 rw [if_neg (by decide)]
 refine ⟨rfl, (by decide : 1 < 2), ?_⟩
 unfold oneP
 rw [if_neg (by decide), if_neg (by decide), if_neg (by decide), if_pos rfl]
 exact ⟨0, by decide, by unfold Tm.near; decide, (semP 0).2 rfl⟩
theorem semP0 : atB trS [lsP] 0 = true := by
 unfold atB
 rw [trS_may, lsP_form]
 have : tb trS [lsP] (0 : Int).toNat = true := by rw [tb_iff, foP]; exact (semP 0).2 rfl
 rw [this]
 decide
theorem semP1 : atB trS [lsP] 1 = false := by
 unfold atB
 have : tb trS [lsP] (1 : Int).toNat = false := by
  rw [Bool.eq_false_iff, ne_eq, tb_iff, foP]
  intro h
  exact absurd ((semP 1).1 h) (by decide)
 rw [this, Bool.and_false]
abbrev wS1 (w : World) : World := w.alloc (.cells #[.string { data := #[112] }] 9)
abbrev wS2 (w : World) : World := (wS1 w).alloc (.cells #[.int .i64 0] 3)
abbrev wS3 (w : World) : World := (wS2 w).alloc (.cells #[.int .u64 3, .slice (some ⟨w.heap.size + 1, 0, none⟩) 1 1, .int .u64 4, .slice none 0 0] 47)
theorem wS_sizes (w : World) : (wS1 w).heap.size = w.heap.size + 1 ∧ (wS2 w).heap.size = w.heap.size + 1 + 1 ∧ (wS3 w).heap.size = w.heap.size + 1 + 1 + 1 := by simp [wS1, wS2, wS3]
theorem trS_ok (w : World) : TrOk Any (wS3 w) (some ⟨w.heap.size, 0, none⟩) 1 1 (some ⟨w.heap.size + 1 + 1, 0, none⟩) 2 2 trS := by
 obtain ⟨s1, s2, s3⟩ := wS_sizes w
 have b1 : Below (wS1 w).heap.size (wS1 w) (wS2 w) := (Below.refl _ _).alloc (Nat.le_refl _) _
 have b2 : Below (wS2 w).heap.size (wS2 w) (wS3 w) := (Below.refl _ _).alloc (Nat.le_refl _) _
 have b13 : Below (wS1 w).heap.size (wS1 w) (wS3 w) := b1.trans (b2.mono b1.size)
 refine ⟨rfl, rfl, ?_, fun s hs => ?_, ?_, ⟨Nat.le_refl _, by decide⟩, ⟨Nat.le_refl _, by decide⟩⟩
 ·refine Strs.below (w := wS1 w) (fun _ => ⟨w.heap.size, 0, rfl, fun j s hs => ?_⟩) b13
  rw [cell_of_row _ w.heap.size (0 + j) _ 9 (0, 0) (heap_alloc_new w _)]
  match j, hs with
  | 0, hs => simp [trS] at hs; subst hs; rfl
  | j + 1, hs => simp [trS] at hs
 ·simp only [trS, List.mem_cons, List.not_mem_nil, or_false] at hs
  subst hs
  decide
 ·have hK : Rd .i64 (wS3 w) (some ⟨w.heap.size + 1, 0, none⟩) 1 [0] := by
   have := (Rd.lit (k := .i64) (wS1 w) 3 (0, 0) [0] (fun z hz => by simp at hz; subst hz; decide)).below b2
   rw [s1] at this
   exact this
  have hb := heap_alloc_new (wS2 w) (.cells #[.int .u64 3, .slice (some ⟨w.heap.size + 1, 0, none⟩) 1 1, .int .u64 4, .slice none 0 0] 47)
  rw [s2] at hb
  have hc := fun k => cell_of_row (wS3 w) (w.heap.size + 1 + 1) k _ 47 (0, 0) hb
  intro _
  refine ⟨w.heap.size + 1 + 1, 0, rfl, fun j e hj => ?_⟩
  match j, hj with
  | 0, hj =>
   simp only [trS, List.getElem?_cons_zero, Option.some.injEq] at hj
   subst hj
   exact ⟨by rw [hc]; rfl, by decide, _, 1, by rw [hc]; rfl, hK, Nat.le_refl _, by decide, trivial, fun _ _ _ => trivial⟩
  | 1, hj =>
   simp only [trS, List.getElem?_cons_succ, List.getElem?_cons_zero, Option.some.injEq] at hj
   subst hj
   exact ⟨by rw [hc]; rfl, by decide, none, 0, by rw [hc]; rfl, Rd.nil _ _ _, Nat.le_refl _, by decide, trivial, fun _ _ _ => trivial⟩
  | j + 2, hj => simp [trS] at hj
theorem lsS_nodes (w : World) (T1 T2 : TypeId) : Tree.Nodes Tree.Any ((w.alloc (.cells #[.int .i64 0] T1)).alloc (.cells #[.int .i64 3, .string { data := #[112] }, .int .i64 0, .int .i64 0, .slice none 0 0, .int .i64 10, .string { data := #[] }, .int .i64 1, .int .i64 1, .slice (some ⟨w.heap.size, 0, none⟩) 1 1] T2)) (some ⟨w.heap.size + 1, 0, none⟩) lsS := by
 intro _
 refine ⟨_, 0, rfl, fun j n hj => ?_⟩
 have hc : ∀ (o : Nat) (u : Value), (#[.int .i64 3, .string { data := #[112] }, .int .i64 0, .int .i64 0, .slice none 0 0, .int .i64 10, .string { data := #[] }, .int .i64 1, .int .i64 1, .slice (some ⟨w.heap.size, 0, none⟩) 1 1] : Array Value)[o]? = some u →
   ((w.alloc (.cells #[.int .i64 0] T1)).alloc (.cells #[.int .i64 3, .string { data := #[112] }, .int .i64 0, .int .i64 0, .slice none 0 0, .int .i64 10, .string { data := #[] }, .int .i64 1, .int .i64 1, .slice (some ⟨w.heap.size, 0, none⟩) 1 1] T2)).cell? ⟨w.heap.size + 1, o, none⟩ = some u := fun o u hu => by
  rw [cell_of_row _ (w.heap.size + 1) o _ _ (0, 0) (Tree.new_at2 w _ _)]; exact hu
 have hs : ∀ x : Int, (x = 0 ∨ x = 1 ∨ x = 3 ∨ x = 10) → Tree.small64 x := fun x hx => by unfold Tree.small64; omega
 match j, hj with
 | 0, hj =>
  simp only [lsS, List.getElem?_cons_zero, Option.some.injEq] at hj
  subst hj
  exact ⟨hc 0 _ rfl, hc 1 _ rfl, hc 2 _ rfl, hc 3 _ rfl, hs _ (by simp [lsP]), hs _ (by simp [lsP]), hs _ (by simp [lsP]), by decide, none, 0, hc 4 _ rfl, Rd.nil _ _ _, Nat.le_refl _, by decide, trivial, fun _ _ _ => trivial⟩
 | 1, hj =>
  simp only [lsS, List.getElem?_cons_succ, List.getElem?_cons_zero, Option.some.injEq] at hj
  subst hj
  refine ⟨hc 5 _ rfl, hc 6 _ rfl, hc 7 _ rfl, hc 8 _ rfl, hs _ (by simp), hs _ (by simp), hs _ (by simp), by decide, some ⟨w.heap.size, 0, none⟩, 1, hc 9 _ rfl, ?_, Nat.le_refl _, by decide, trivial, fun _ _ _ => trivial⟩
  exact (Rd.lit w T1 (0, 0) [0] (fun z hz => by rw [List.mem_singleton.1 hz]; rfl)).alloc _
 | j + 2, hj => simp [lsS] at hj
abbrev wS4 (w : World) : World := (wS3 w).alloc (.cells #[.slice (some ⟨w.heap.size, 0, none⟩) 1 1, .slice (some ⟨w.heap.size + 1 + 1, 0, none⟩) 2 2] 28)
abbrev wS6 (w : World) : World := ((wS4 w).alloc (.cells #[.int .i64 0] 3)).alloc (.cells #[.int .i64 3, .string { data := #[112] }, .int .i64 0, .int .i64 0, .slice none 0 0, .int .i64 10, .string { data := #[] }, .int .i64 1, .int .i64 1, .slice (some ⟨w.heap.size + 1 + 1 + 1 + 1, 0, none⟩) 1 1] 37)
theorem wS_all (w : World) : TrOk Any (wS6 w) (some ⟨w.heap.size, 0, none⟩) 1 1 (some ⟨w.heap.size + 1 + 1, 0, none⟩) 2 2 trS ∧ Tree.Nodes Tree.Any (wS6 w) (some ⟨w.heap.size + 1 + 1 + 1 + 1 + 1, 0, none⟩) lsS ∧
  (wS6 w).cell? ⟨w.heap.size + 1 + 1 + 1, 0, none⟩ = some (.slice (some ⟨w.heap.size, 0, none⟩) 1 1) ∧ (wS6 w).cell? ⟨w.heap.size + 1 + 1 + 1, 1, none⟩ = some (.slice (some ⟨w.heap.size + 1 + 1, 0, none⟩) 2 2) ∧ Below w.heap.size w (wS6 w) := by
 obtain ⟨s1, s2, s3⟩ := wS_sizes w
 have s4 : (wS4 w).heap.size = w.heap.size + 1 + 1 + 1 + 1 := by simp [wS4, wS3, wS2, wS1]
 have b3 : Below (wS3 w).heap.size (wS3 w) (wS4 w) := (Below.refl _ _).alloc (Nat.le_refl _) _
 have b4 : Below (wS4 w).heap.size (wS4 w) (wS6 w) := ((Below.refl _ _).alloc (Nat.le_refl _) _).alloc (by simp) _
 have b36 := b3.trans (b4.mono b3.size)
 have hn := lsS_nodes (wS4 w) 3 37
 rw [s4] at hn
 have c0 : (wS4 w).cell? ⟨(wS3 w).heap.size, 0, none⟩ = some (.slice (some ⟨w.heap.size, 0, none⟩) 1 1) := box_cell 0 _ rfl
 have c1 : (wS4 w).cell? ⟨(wS3 w).heap.size, 1, none⟩ = some (.slice (some ⟨w.heap.size + 1 + 1, 0, none⟩) 2 2) := box_cell 1 _ rfl
 rw [s3] at c0 c1
 refine ⟨(trS_ok w).below b36, hn, below_cell b4 c0, below_cell b4 c1, ?_⟩
 have b0 : Below w.heap.size w (wS3 w) := (((Below.refl _ w).alloc (Nat.le_refl _) _).alloc (by rw [s1]; omega) _).alloc (by rw [s2]; omega) _
 exact b0.trans (b36.mono b0.size)
theorem nodes_head {w : World} {A : Option Addr} (h : Tree.Nodes Tree.Any w A lsS) : Tree.Nodes Tree.Any w A [lsP] := fun _ => by
 obtain ⟨b, o, e, hns⟩ := h (by decide)
 refine ⟨b, o, e, fun j n hj => ?_⟩
 match j, hj with
 | 0, hj => exact hns 0 n hj
 | j + 1, hj => simp at hj
set_option maxHeartbeats 8000000 in
set_option maxRecDepth 100000 in
theorem awake (w : World) : Calls Tryz.prog 12 #[] w fun e w' => e = .returned (.bool true) ∧ Below w.heap.size w w' := by
 have HW := Lib.hid (wS_all w)
 go_enter Tryz.func12, Tryz.ntmps12
 go_wp2_with fail
 obtain ⟨W, hW⟩ : ∃ W, wS6 w = W := ⟨_, rfl⟩
 rw [hW] at HW
 have hW : (((((w.alloc (.cells #[.string { data := #[112] }] 9)).alloc (.cells #[.int .i64 0] 3)).alloc (.cells #[.int .u64 3, .slice (some ⟨w.heap.size + 1, 0, none⟩) 1 1, .int .u64 4, .slice none 0 0] 47)).alloc (.cells #[.slice (some ⟨w.heap.size, 0, none⟩) 1 1, .slice (some ⟨w.heap.size + 1 + 1, 0, none⟩) 2 2] 28)).alloc (.cells #[.int .i64 0] 3)).alloc (.cells #[.int .i64 3, .string { data := #[112] }, .int .i64 0, .int .i64 0, .slice none 0 0, .int .i64 10, .string { data := #[] }, .int .i64 1, .int .i64 1, .slice (some ⟨w.heap.size + 1 + 1 + 1 + 1, 0, none⟩) 1 1] 37) = W := hW
 rw [hW]
 clear hW
 obtain ⟨g, hg⟩ : ∃ g, w.heap.size + 1 + 1 + 1 = g := ⟨_, rfl⟩
 rw [hg] at HW ⊢
 refine (landAll _ _ _ _ _ _ trS _ _ _ lsS W HW.out.1 HW.out.2.1 rfl (by decide) (by decide) (by decide)).mono ?_
 rintro e w1 ⟨hb, he⟩
 rw [trS_may, lsS_form, if_pos (by decide)] at he
 obtain ⟨b, rfl, ho⟩ := he
 have c0 := ho.rb 0 (by decide)
 have c1 := ho.rb 1 (by decide)
 rw [semS0] at c0
 rw [semS1] at c1
 have t0 := below_cell hb HW.out.2.2.1
 have t1 := below_cell hb HW.out.2.2.2.1
 have HB := Lib.hid hb
 have HT := Lib.hid (HW.out.1.below hb)
 have HN := Lib.hid (nodes_head (HW.out.2.1.below hb))
 clear hb ho
 go_wp2_with fail
 refine wp_region_held_drew (S := fun V => (V.cell? ⟨g, 0, none⟩ = some (.slice (some ⟨w.heap.size, 0, none⟩) 1 1) ∧ V.cell? ⟨g, 1, none⟩ = some (.slice (some ⟨w.heap.size + 1 + 1, 0, none⟩) 2 2)) ∧ V.cell? ⟨b, 0, none⟩ = some (.bool false) ∧ V.cell? ⟨b, 1, none⟩ = some (.bool true)) (by kernel_rfl) ⟨⟨t0, t1⟩, c0, c1⟩ (fun hHeld => ?_)
 refine tkOp 0 hHeld ?_
 refine tkOp 1 hHeld ?_
 refine tkOp 2 hHeld ?_
 refine tkOp 3 hHeld ?_
 refine tkOp 4 hHeld ?_
 refine tkOp 5 hHeld ?_
 refine tkOp 6 hHeld ?_
 refine tkOp 7 hHeld ?_
 refine tkOp 8 hHeld ?_
 refine tkOp 9 hHeld ?_
 refine tkOp 10 hHeld ?_
 refine tkOp 11 hHeld ?_
 refine tkOp 12 hHeld ?_
 refine tkOp 13 hHeld ?_
 refine tkOp 14 hHeld ?_
 refine tkOp 15 hHeld ?_
 refine tkOp 16 hHeld ?_
 refine tkOp 17 hHeld ?_
 refine tkCall 18 (fun Kt hKt => ?_)
 go_simp
 (go_at_call 19; refine (landAt _ _ _ _ _ _ trS _ 1 2 [lsP] 0 _ (HT.out.below (Below.refl _ _).drew) (HN.out.below (Below.refl _ _).drew) rfl (by decide) (by decide) (by decide)).mono ?_; rintro e w2 ⟨rfl, hb2⟩; rw [semP0])
 refine hKt.out _ _ ?_ (fun hT => ?_)
 ·(exact ⟨⟨below_cell hb2 hHeld.1.1, below_cell hb2 hHeld.1.2⟩, below_cell hb2 hHeld.2.1, below_cell hb2 hHeld.2.2⟩)
 clear hKt Kt hHeld
 have hHeld := hT
 clear hT
 try simp only [Act.put, tkA, tkB, tkC]
 refine tkOp 19 hHeld ?_
 refine tkOp 20 hHeld ?_
 refine tkOp 21 hHeld ?_
 refine tkOp 22 hHeld ?_
 refine tkOp 23 hHeld ?_
 refine tkCall 24 (fun Kt hKt => ?_)
 go_simp
 (go_at_call 19; refine (landAt _ _ _ _ _ _ trS _ 1 2 [lsP] 1 _ ((HT.out.below (Below.refl _ _).drew).below hb2) ((HN.out.below (Below.refl _ _).drew).below hb2) rfl (by decide) (by decide) (by decide)).mono ?_; rintro e w3 ⟨rfl, hb3⟩; rw [semP1])
 refine hKt.out _ _ ?_ (fun hT => ?_)
 ·(exact ⟨⟨below_cell hb3 hHeld.1.1, below_cell hb3 hHeld.1.2⟩, below_cell hb3 hHeld.2.1, below_cell hb3 hHeld.2.2⟩)
 clear hKt Kt hHeld
 have hHeld := hT
 clear hT
 try simp only [Act.put, tkA, tkB, tkC]
 refine tkOp 25 hHeld ?_
 refine tkOp 26 hHeld ?_
 refine tkOp 27 hHeld ?_
 refine wpAnyH_done (by kernel_rfl) ?_ _
 have HX := Lib.hid ((undrew1 hb2).trans (hb3.mono (undrew1 hb2).size))
 clear hHeld hb2 hb3
 go_wp2_with fail
 go_ret
 have h1 := HW.out.2.2.2.2
 have h2 := h1.trans (HB.out.mono h1.size)
 exact ⟨rfl, h2.trans (HX.out.mono h2.size)⟩
end Go.Proofs.YtdbgaccnejffpaaGreatDoor.Sat
