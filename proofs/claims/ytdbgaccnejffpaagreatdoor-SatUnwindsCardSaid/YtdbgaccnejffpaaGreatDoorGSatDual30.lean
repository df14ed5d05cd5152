/-
  The region of the landed Reach in which both tables of sets are made, in each of its orders (stage 14). By an AI agent. (Written by wip/tools/genreach14.py.)
-/
import Derived.Test.YtdbgaccnejffpaaGreatDoorGSatDual1
import Derived.Test.YtdbgaccnejffpaaGreatDoorGSatDual29
namespace Go.Proofs.YtdbgaccnejffpaaGreatDoor.Paths
open Go.RowKit Go.Shelf Go.Proofs.YtdbgaccnejffpaaGreatDoor.Ints Go.Proofs.YtdbgaccnejffpaaGreatDoor.Mem Go.Proofs.YtdbgaccnejffpaaGreatDoor.Src Go.Proofs.YtdbgaccnejffpaaGreatDoor.Tree Go.Proofs.YtdbgaccnejffpaaGreatDoor.BitsWalks Go.Proofs.YtdbgaccnejffpaaGreatDoor.RdW Go.Proofs.YtdbgaccnejffpaaGreatDoor.Words Go.Proofs.YtdbgaccnejffpaaGreatDoor.Round
def onNormal (K : Act → World → Prop) : Exit → Act → World → Prop
 | .normal, a, w => K a w
 | _, _, _ => False
theorem Sets.down {w : World} {lo lo' B : Nat} {R : Nat → Nat} {np wn : Nat} {g : Nat → Nat} (h : Sets w lo B R np wn g) (hlo : lo' ≤ lo) : Sets w lo' B R np wn g := by
 have go : ∀ {e : TypeId} {r k : Nat} {xs : List Value}, w.ownsRow lo e 1 (.slice (some ⟨r, 0, none⟩) k k) k xs → w.ownsRow lo' e 1 (.slice (some ⟨r, 0, none⟩) k k) k xs := fun h => by
  refine ⟨h.1, ?_⟩
  rcases h.2 with h2 | ⟨g, cap, cur, e1, h4, h5, h6⟩
  ·exact .inl h2
  ·exact .inr ⟨g, cap, cur, e1, Nat.le_trans hlo h4, h5, h6⟩
 exact ⟨go h.out, fun i hi => go (h.row i hi), h.off, h.wd⟩
structure Two (W : World) (lo np wn X7 X8 B1 B2 : Nat) (R1 R2 : Nat → Nat) : Prop where
 x7 : Boxed W X7 103 (.slice (some ⟨B1, 0, none⟩) np np)
 x8 : Boxed W X8 103 (.slice (some ⟨B2, 0, none⟩) np np)
 s1 : Sets W lo B1 R1 np wn (fun _ => 0)
 s2 : Sets W lo B2 R2 np wn (fun _ => 0)
 ap : B1 ≠ B2 ∧ ∀ i j, i < np → j < np → R1 i ≠ R2 j
 xx : X7 ≠ X8
 lo7 : lo ≤ X7
 lo8 : lo ≤ X8
theorem boxed_later {W W' : World} {B : Nat} {t : TypeId} {v : Value} (h : Boxed W B t v) (hb : Below W.heap.size W W') : Boxed W' B t v := (hb.block B h.lt).trans h
theorem boxed_off {W : World} {X : Nat} {t : TypeId} {v : Value} (h : Boxed W X t v) {lo : Nat} {e : TypeId} {r n c k : Nat} {xs : List Value} (hr : W.ownsRow lo e k (.slice (some ⟨r, 0, none⟩) n c) n xs) (hne : t ≠ e) : r ≠ X := fun e1 => by
 have h2 := h.not_row hne hr
 rw [e1] at h2
 exact h2 rfl
theorem sets_boxed {W : World} {X lo B np wn : Nat} {R g : Nat → Nat} {v : Value} (h : Boxed W X 103 v) (hs : Sets W lo B R np wn g) : B ≠ X ∧ ∀ i, i < np → R i ≠ X :=
 ⟨boxed_off h hs.out (by decide), fun i hi => boxed_off h (hs.row i hi) (by decide)⟩
theorem sets_cross {W : World} {lo B B' np wn : Nat} {R R' g g' : Nat → Nat} (h : Sets W lo B R np wn g) (h' : Sets W lo B' R' np wn g') : ∀ i, i < np → R i ≠ B' := fun i hi e => by
 have hr := h.row i hi
 rw [e] at hr
 rcases hr.2 with ⟨e1, -⟩ | ⟨g1, c1, cur1, e1, -, hq1, -⟩
 ·cases e1
 rcases h'.out.2 with ⟨e2, -⟩ | ⟨g2, c2, cur2, e2, -, hq2, -⟩
 ·cases e2
 injection e1 with e1
 injection e1 with e1
 injection e1 with e1
 injection e2 with e2
 injection e2 with e2
 injection e2 with e2
 rw [← e1] at hq1
 rw [← e2, hq1] at hq2
 injection hq2 with hq2
 injection hq2 with _ e3 _
 exact absurd e3 (by decide)
theorem sets_apart {W W' : World} {lo lo' B1 B2 np wn : Nat} {R1 R2 g1 g2 : Nat → Nat} (h1 : Sets W lo B1 R1 np wn g1) (h2 : Sets W' lo' B2 R2 np wn g2) (hlo : W.heap.size ≤ lo') : B1 ≠ B2 ∧ ∀ i j, i < np → j < np → R1 i ≠ R2 j := by
 have a1 := h1.lt
 have a2 := h2.lt
 refine ⟨by omega, fun i j hi hj => ?_⟩
 have := (a1.2 i hi).2
 have := (a2.2 j hj).1
 omega
theorem two_ok {V : World} {lo np wn X7 X8 B1 B2 : Nat} {R1 R2 : Nat → Nat} {u7 u8 : Value} (x7 : Boxed V X7 103 u7) (x8 : Boxed V X8 103 u8) (s1 : Sets V lo B1 R1 np wn (fun _ => 0)) (s2 : Sets V lo B2 R2 np wn (fun _ => 0))
  (ap : B1 ≠ B2 ∧ ∀ i j, i < np → j < np → R1 i ≠ R2 j) (xx : X7 ≠ X8) (lo7 : lo ≤ X7) (lo8 : lo ≤ X8) :
  Two ((V.setCell ⟨X7, 0, none⟩ (.slice (some ⟨B1, 0, none⟩) np np)).setCell ⟨X8, 0, none⟩ (.slice (some ⟨B2, 0, none⟩) np np)) lo np wn X7 X8 B1 B2 R1 R2 := by
 have y7 := x7.set (.slice (some ⟨B1, 0, none⟩) np np)
 have y8 := x8.kept (grownBy_setCell' V X7 (.slice (some ⟨B1, 0, none⟩) np np)) (fun e => xx (by injection e with e; exact e.symm))
 have z7 := y7.kept (grownBy_setCell' (V.setCell ⟨X7, 0, none⟩ (.slice (some ⟨B1, 0, none⟩) np np)) X8 (.slice (some ⟨B2, 0, none⟩) np np)) (fun e => xx (by injection e))
 have z8 := y8.set (.slice (some ⟨B2, 0, none⟩) np np)
 have go : ∀ q, q ≠ X7 → q ≠ X8 → ((V.setCell ⟨X7, 0, none⟩ (.slice (some ⟨B1, 0, none⟩) np np)).setCell ⟨X8, 0, none⟩ (.slice (some ⟨B2, 0, none⟩) np np)).heap[q]? = V.heap[q]? := fun q h7 h8 => (Below.heap_setCell _ ⟨X8, 0, none⟩ _ q h8).trans (Below.heap_setCell _ ⟨X7, 0, none⟩ _ q h7)
 have o1 := sets_boxed x7 s1
 have o2 := sets_boxed x7 s2
 have p1 := sets_boxed x8 s1
 have p2 := sets_boxed x8 s2
 exact ⟨z7, z8, s1.kept (go _ o1.1 p1.1) (fun i hi => go _ (o1.2 i hi) (p1.2 i hi)), s2.kept (go _ o2.1 p2.1) (fun i hi => go _ (o2.2 i hi) (p2.2 i hi)), ap, xx, lo7, lo8⟩
set_option maxHeartbeats 40000000 in
set_option maxRecDepth 100000 in
theorem make_two (A V : Option Addr) (n c nv cv np wn b3 b5 b6 gp BR : Nat) (w4 : World) (C : Code) (hC : C = cFst (cSnd (cSnd (cSnd (cSnd (Tryz.f84.body.getD .skip))))))
  (k3 : ∀ W, Below w4.heap.size w4 W → W.cell? ⟨b3, 0, none⟩ = some (.slice V nv cv)) (k5 : ∀ W, Below w4.heap.size w4 W → W.cell? ⟨b5, 0, none⟩ = some (.pointer (some ⟨gp, 0, none⟩)))
  (hst : ∀ W, Below w4.heap.size w4 W → Calls Tryz.prog 92 #[.pointer (some ⟨gp, 0, none⟩), .int .i64 (nv : Nat)] W fun e w' => ∃ B R, e = .returned (.slice (some ⟨B, 0, none⟩) np np) ∧ Sets w' W.heap.size B R np wn (fun _ => 0) ∧ Below W.heap.size W w') :
  C.wp Tryz.prog (onNormal fun a W => ∃ X7 X8 B1 B2 R1 R2, a = { tmps := #[.slice A n c, .slice V nv cv, undef, .pointer (some ⟨b3, 0, none⟩), .slice none 0 0, .pointer (some ⟨b5, 0, none⟩), .pointer (some ⟨b6, 0, none⟩), .pointer (some ⟨X7, 0, none⟩), .pointer (some ⟨X8, 0, none⟩), undef, undef, .slice A n c, .bool true, .bool false, .slice A n c, .pointer (some ⟨gp, 0, none⟩), .slice V nv cv, .int .i64 (nv : Nat), .slice (some ⟨BR, 0, none⟩) nv nv, .pointer (some ⟨gp, 0, none⟩), .slice V nv cv, .int .i64 (nv : Nat), .slice (some ⟨B1, 0, none⟩) np np, .pointer (some ⟨gp, 0, none⟩), .slice V nv cv, .int .i64 (nv : Nat), .slice (some ⟨B2, 0, none⟩) np np, undef, undef, undef, undef, undef, undef, undef, undef, undef, undef, undef, undef, undef, undef, undef, undef, undef, undef, undef, undef, undef, undef, undef, undef, undef, undef, undef, undef, undef, undef, undef, undef, undef, undef, undef, undef], defers := [] } ∧ Two W w4.heap.size np wn X7 X8 B1 B2 R1 R2 ∧ Below w4.heap.size w4 W) { tmps := #[.slice A n c, .slice V nv cv, undef, .pointer (some ⟨b3, 0, none⟩), .slice none 0 0, .pointer (some ⟨b5, 0, none⟩), .pointer (some ⟨b6, 0, none⟩), undef, undef, undef, undef, .slice A n c, .bool true, .bool false, .slice A n c, .pointer (some ⟨gp, 0, none⟩), .slice V nv cv, .int .i64 (nv : Nat), .slice (some ⟨BR, 0, none⟩) nv nv, undef, undef, undef, undef, undef, undef, undef, undef, undef, undef, undef, undef, undef, undef, undef, undef, undef, undef, undef, undef, undef, undef, undef, undef, undef, undef, undef, undef, undef, undef, undef, undef, undef, undef, undef, undef, undef, undef, undef, undef, undef, undef, undef, undef], defers := [] } w4 := by
 simp only [Tryz.f84, Option.getD_some, cFst, cSnd] at hC
 subst hC
 have HST := Lib.hid hst
 have HSS := Lib.hid (show ∀ W, Below w4.heap.size w4 W → W.cell? ⟨b3, 0, none⟩ = some (.slice V nv cv) ∧ W.cell? ⟨b5, 0, none⟩ = some (.pointer (some ⟨gp, 0, none⟩)) from fun W hb => ⟨k3 W hb, k5 W hb⟩)
 clear hst k3 k5
 dsimp only
 refine wp_region_held_drew (S := fun W => W.cell? ⟨b3, 0, none⟩ = some (.slice V nv cv) ∧ W.cell? ⟨b5, 0, none⟩ = some (.pointer (some ⟨gp, 0, none⟩))) (by kernel_rfl) (HSS.out _ (Below.refl _ _).drew) (fun hHeld => ?_)
 obtain ⟨Z0, hZ0⟩ : ∃ Z, w4.drew = Z := ⟨_, rfl⟩
 have hbZ0 : Below w4.heap.size w4 Z0 := by rw [← hZ0]; exact (Below.refl _ _).drew
 rw [hZ0] at hHeld ⊢
 clear hZ0
 refine tkOp 0 hHeld ?_
 refine tkOp 1 hHeld ?_
 refine tkOp 2 hHeld ?_
 refine tkOp 4 hHeld ?_
 refine tkOp 5 hHeld ?_
 refine tkOp 6 hHeld ?_
 refine wpAnyH_ready (rs := [3, 8, 9]) (by kernel_rfl) (by simp) ?_
 refine AllReadyH.cons (o := ?ro1) ?rh1 (fun K1 hK1 => ?rs1) ?rm1
 case rh1 => (simp only [List.getElem?_toArray, List.getElem?_cons_succ, List.getElem?_cons_zero]; rfl)
 case rs1 =>
  go_simp
  refine (HST.out Z0 hbZ0).mono ?_
  rintro e Z1 ⟨B1, R1, rfl, hs1, hcZ1⟩
  have hbZ1 := hbZ0.trans (hcZ1.mono hbZ0.size)
  have hzZ1 := hcZ1.size
  have hS1 := hs1.down hbZ0.size
  refine hK1.out _ _ (HSS.out Z1 hbZ1) (fun hHeld => ?_)
  clear hK1 K1
  try simp only [Act.put, List.setIfInBounds_toArray, List.set_cons_zero, List.set_cons_succ]
  refine wpAnyH_ready (rs := [7, 8, 9]) (by kernel_rfl) (by simp) ?_
  refine AllReadyH.cons (o := ?ro2) ?rh2 (fun K2 hK2 => ?rs2) ?rm2
  case rh2 => (simp only [List.getElem?_toArray, List.getElem?_cons_succ, List.getElem?_cons_zero]; rfl)
  case rs2 =>
   go_simp
   refine (HST.out Z1 hbZ1).mono ?_
   rintro e Z2 ⟨B2, R2, rfl, hs2, hcZ2⟩
   have hbZ2 := hbZ1.trans (hcZ2.mono hbZ1.size)
   have hzZ2 := hcZ2.size
   have hap := sets_apart hS1 hs2 (Nat.le_refl _)
   have hS1 := hS1.below hcZ2
   have hS2 := hs2.down hbZ1.size
   refine hK2.out _ _ (HSS.out Z2 hbZ2) (fun hHeld => ?_)
   clear hK2 K2
   try simp only [Act.put, List.setIfInBounds_toArray, List.set_cons_zero, List.set_cons_succ]
   refine wpAnyH_ready (rs := [8, 9]) (by kernel_rfl) (by simp) ?_
   refine AllReadyH.cons (o := ?ro3) ?rh3 (fun K3 hK3 => ?rs3) ?rm3
   case rh3 => (simp only [List.getElem?_toArray, List.getElem?_cons_succ, List.getElem?_cons_zero]; rfl)
   case rs3 =>
    go_simp
    obtain ⟨Z3, hq3⟩ : ∃ Z, Z2.alloc (.cells #[.slice none 0 0] 103) = Z := ⟨_, rfl⟩
    have hcZ3 : Below Z2.heap.size Z2 Z3 := by rw [← hq3]; exact (Below.refl _ _).alloc (Nat.le_refl _) _
    have hn3 : Boxed Z3 Z2.heap.size 103 (.slice none 0 0) := by rw [← hq3]; exact Boxed.new _ _ _
    have hbZ3 := hbZ2.trans (hcZ3.mono hbZ2.size)
    have hS1 := hS1.below hcZ3
    have hS2 := hS2.below hcZ3
    have hx7 := hn3
    have hl7 := hbZ2.size
    try rw [hq3]
    clear hq3 hn3
    obtain ⟨X7, hX7⟩ : ∃ X, Z2.heap.size = X := ⟨_, rfl⟩
    rw [hX7] at hx7 hl7 ⊢
    refine hK3.out _ _ (HSS.out Z3 hbZ3) (fun hHeld => ?_)
    clear hK3 K3
    try simp only [Act.put, List.setIfInBounds_toArray, List.set_cons_zero, List.set_cons_succ]
    refine wpAnyH_ready (rs := [9]) (by kernel_rfl) (by simp) ?_
    refine AllReadyH.cons (o := ?ro4) ?rh4 (fun K4 hK4 => ?rs4) ?rm4
    case rh4 => (simp only [List.getElem?_toArray, List.getElem?_cons_succ, List.getElem?_cons_zero]; rfl)
    case rs4 =>
     go_simp
     obtain ⟨Z4, hq4⟩ : ∃ Z, Z3.alloc (.cells #[.slice none 0 0] 103) = Z := ⟨_, rfl⟩
     have hcZ4 : Below Z3.heap.size Z3 Z4 := by rw [← hq4]; exact (Below.refl _ _).alloc (Nat.le_refl _) _
     have hn4 : Boxed Z4 Z3.heap.size 103 (.slice none 0 0) := by rw [← hq4]; exact Boxed.new _ _ _
     have hbZ4 := hbZ3.trans (hcZ4.mono hbZ3.size)
     have hxx : X7 ≠ Z3.heap.size := by have := hx7.lt; omega
     have hS1 := hS1.below hcZ4
     have hS2 := hS2.below hcZ4
     have hx7 := boxed_later hx7 hcZ4
     have hx8 := hn4
     have hl8 := hbZ3.size
     try rw [hq4]
     clear hq4 hn4
     obtain ⟨X8, hX8⟩ : ∃ X, Z3.heap.size = X := ⟨_, rfl⟩
     rw [hX8] at hx8 hl8 ⊢
     rw [hX8] at hxx
     refine hK4.out _ _ (HSS.out Z4 hbZ4) (fun hHeld => ?_)
     clear hK4 K4
     try simp only [Act.put, List.setIfInBounds_toArray, List.set_cons_zero, List.set_cons_succ]
     have HT := Lib.hid (two_ok hx7 hx8 hS1 hS2 hap hxx hl7 hl8)
     have c7 := hx7.cell
     have f7 := hx7.frozen
     have c8 := (hx8.kept (grownBy_setCell' Z4 X7 (.slice (some ⟨B1, 0, none⟩) np np)) (fun e => hxx (by injection e with e; exact e.symm))).cell
     have f8 := (hx8.kept (grownBy_setCell' Z4 X7 (.slice (some ⟨B1, 0, none⟩) np np)) (fun e => hxx (by injection e with e; exact e.symm))).frozen
     have hbA := hbZ4.setCell (p := ⟨X7, 0, none⟩) hl7 (.slice (some ⟨B1, 0, none⟩) np np)
     have hbB := hbA.setCell (p := ⟨X8, 0, none⟩) hl8 (.slice (some ⟨B2, 0, none⟩) np np)
     refine tkCall 10 (fun Kt hKt => ?_)
     go_simp
     refine hKt.out _ _ ?_ (fun hT => ?_)
     ·(exact HSS.out _ hbA)
     clear hKt Kt hHeld
     have hHeld := hT
     clear hT
     try simp only [Act.put, tkA, tkB, tkC]
     refine tkCall 11 (fun Kt hKt => ?_)
     go_simp
     refine hKt.out _ _ ?_ (fun hT => ?_)
     ·(exact HSS.out _ hbB)
     clear hKt Kt hHeld
     have hHeld := hT
     clear hT
     try simp only [Act.put, tkA, tkB, tkC]
     refine wpAnyH_done (by kernel_rfl) ?_ _
     exact ⟨X7, X8, B1, B2, R1, R2, rfl, HT.out, hbB⟩
    case rm4 => exact AllReadyH.nil
   case rm3 =>
    refine AllReadyH.cons (o := ?ro5) ?rh5 (fun K5 hK5 => ?rs5) ?rm5
    case rh5 => (simp only [List.getElem?_toArray, List.getElem?_cons_succ, List.getElem?_cons_zero]; rfl)
    case rs5 =>
     go_simp
     obtain ⟨Z5, hq5⟩ : ∃ Z, Z2.alloc (.cells #[.slice none 0 0] 103) = Z := ⟨_, rfl⟩
     have hcZ5 : Below Z2.heap.size Z2 Z5 := by rw [← hq5]; exact (Below.refl _ _).alloc (Nat.le_refl _) _
     have hn5 : Boxed Z5 Z2.heap.size 103 (.slice none 0 0) := by rw [← hq5]; exact Boxed.new _ _ _
     have hbZ5 := hbZ2.trans (hcZ5.mono hbZ2.size)
     have hS1 := hS1.below hcZ5
     have hS2 := hS2.below hcZ5
     have hx8 := hn5
     have hl8 := hbZ2.size
     try rw [hq5]
     clear hq5 hn5
     obtain ⟨X8, hX8⟩ : ∃ X, Z2.heap.size = X := ⟨_, rfl⟩
     rw [hX8] at hx8 hl8 ⊢
     refine hK5.out _ _ (HSS.out Z5 hbZ5) (fun hHeld => ?_)
     clear hK5 K5
     try simp only [Act.put, List.setIfInBounds_toArray, List.set_cons_zero, List.set_cons_succ]
     refine wpAnyH_ready (rs := [8]) (by kernel_rfl) (by simp) ?_
     refine AllReadyH.cons (o := ?ro6) ?rh6 (fun K6 hK6 => ?rs6) ?rm6
     case rh6 => (simp only [List.getElem?_toArray, List.getElem?_cons_succ, List.getElem?_cons_zero]; rfl)
     case rs6 =>
      go_simp
      obtain ⟨Z6, hq6⟩ : ∃ Z, Z5.alloc (.cells #[.slice none 0 0] 103) = Z := ⟨_, rfl⟩
      have hcZ6 : Below Z5.heap.size Z5 Z6 := by rw [← hq6]; exact (Below.refl _ _).alloc (Nat.le_refl _) _
      have hn6 : Boxed Z6 Z5.heap.size 103 (.slice none 0 0) := by rw [← hq6]; exact Boxed.new _ _ _
      have hbZ6 := hbZ5.trans (hcZ6.mono hbZ5.size)
      have hxx : Z5.heap.size ≠ X8 := by have := hx8.lt; omega
      have hS1 := hS1.below hcZ6
      have hS2 := hS2.below hcZ6
      have hx8 := boxed_later hx8 hcZ6
      have hx7 := hn6
      have hl7 := hbZ5.size
      try rw [hq6]
      clear hq6 hn6
      obtain ⟨X7, hX7⟩ : ∃ X, Z5.heap.size = X := ⟨_, rfl⟩
      rw [hX7] at hx7 hl7 ⊢
      rw [hX7] at hxx
      refine hK6.out _ _ (HSS.out Z6 hbZ6) (fun hHeld => ?_)
      clear hK6 K6
      try simp only [Act.put, List.setIfInBounds_toArray, List.set_cons_zero, List.set_cons_succ]
      have HT := Lib.hid (two_ok hx7 hx8 hS1 hS2 hap hxx hl7 hl8)
      have c7 := hx7.cell
      have f7 := hx7.frozen
      have c8 := (hx8.kept (grownBy_setCell' Z6 X7 (.slice (some ⟨B1, 0, none⟩) np np)) (fun e => hxx (by injection e with e; exact e.symm))).cell
      have f8 := (hx8.kept (grownBy_setCell' Z6 X7 (.slice (some ⟨B1, 0, none⟩) np np)) (fun e => hxx (by injection e with e; exact e.symm))).frozen
      have hbA := hbZ6.setCell (p := ⟨X7, 0, none⟩) hl7 (.slice (some ⟨B1, 0, none⟩) np np)
      have hbB := hbA.setCell (p := ⟨X8, 0, none⟩) hl8 (.slice (some ⟨B2, 0, none⟩) np np)
      refine tkCall 10 (fun Kt hKt => ?_)
      go_simp
      refine hKt.out _ _ ?_ (fun hT => ?_)
      ·(exact HSS.out _ hbA)
      clear hKt Kt hHeld
      have hHeld := hT
      clear hT
      try simp only [Act.put, tkA, tkB, tkC]
      refine tkCall 11 (fun Kt hKt => ?_)
      go_simp
      refine hKt.out _ _ ?_ (fun hT => ?_)
      ·(exact HSS.out _ hbB)
      clear hKt Kt hHeld
      have hHeld := hT
      clear hT
      try simp only [Act.put, tkA, tkB, tkC]
      refine wpAnyH_done (by kernel_rfl) ?_ _
      exact ⟨X7, X8, B1, B2, R1, R2, rfl, HT.out, hbB⟩
     case rm6 => exact AllReadyH.nil
    case rm5 => exact AllReadyH.nil
  case rm2 =>
   refine AllReadyH.cons (o := ?ro7) ?rh7 (fun K7 hK7 => ?rs7) ?rm7
   case rh7 => (simp only [List.getElem?_toArray, List.getElem?_cons_succ, List.getElem?_cons_zero]; rfl)
   case rs7 =>
    go_simp
    obtain ⟨Z7, hq7⟩ : ∃ Z, Z1.alloc (.cells #[.slice none 0 0] 103) = Z := ⟨_, rfl⟩
    have hcZ7 : Below Z1.heap.size Z1 Z7 := by rw [← hq7]; exact (Below.refl _ _).alloc (Nat.le_refl _) _
    have hn7 : Boxed Z7 Z1.heap.size 103 (.slice none 0 0) := by rw [← hq7]; exact Boxed.new _ _ _
    have hbZ7 := hbZ1.trans (hcZ7.mono hbZ1.size)
    have hS1 := hS1.below hcZ7
    have hx7 := hn7
    have hl7 := hbZ1.size
    try rw [hq7]
    clear hq7 hn7
    obtain ⟨X7, hX7⟩ : ∃ X, Z1.heap.size = X := ⟨_, rfl⟩
    rw [hX7] at hx7 hl7 ⊢
    refine hK7.out _ _ (HSS.out Z7 hbZ7) (fun hHeld => ?_)
    clear hK7 K7
    try simp only [Act.put, List.setIfInBounds_toArray, List.set_cons_zero, List.set_cons_succ]
    refine wpAnyH_ready (rs := [7, 9]) (by kernel_rfl) (by simp) ?_
    refine AllReadyH.cons (o := ?ro8) ?rh8 (fun K8 hK8 => ?rs8) ?rm8
    case rh8 => (simp only [List.getElem?_toArray, List.getElem?_cons_succ, List.getElem?_cons_zero]; rfl)
    case rs8 =>
     go_simp
     refine (HST.out Z7 hbZ7).mono ?_
     rintro e Z8 ⟨B2, R2, rfl, hs8, hcZ8⟩
     have hbZ8 := hbZ7.trans (hcZ8.mono hbZ7.size)
     have hzZ8 := hcZ8.size
     have hap := sets_apart hS1 hs8 (Nat.le_refl _)
     have hS1 := hS1.below hcZ8
     have hx7 := boxed_later hx7 hcZ8
     have hS2 := hs8.down hbZ7.size
     refine hK8.out _ _ (HSS.out Z8 hbZ8) (fun hHeld => ?_)
     clear hK8 K8
     try simp only [Act.put, List.setIfInBounds_toArray, List.set_cons_zero, List.set_cons_succ]
     refine wpAnyH_ready (rs := [9]) (by kernel_rfl) (by simp) ?_
     refine AllReadyH.cons (o := ?ro9) ?rh9 (fun K9 hK9 => ?rs9) ?rm9
     case rh9 => (simp only [List.getElem?_toArray, List.getElem?_cons_succ, List.getElem?_cons_zero]; rfl)
     case rs9 =>
      go_simp
      obtain ⟨Z9, hq9⟩ : ∃ Z, Z8.alloc (.cells #[.slice none 0 0] 103) = Z := ⟨_, rfl⟩
      have hcZ9 : Below Z8.heap.size Z8 Z9 := by rw [← hq9]; exact (Below.refl _ _).alloc (Nat.le_refl _) _
      have hn9 : Boxed Z9 Z8.heap.size 103 (.slice none 0 0) := by rw [← hq9]; exact Boxed.new _ _ _
      have hbZ9 := hbZ8.trans (hcZ9.mono hbZ8.size)
      have hxx : X7 ≠ Z8.heap.size := by have := hx7.lt; omega
      have hS1 := hS1.below hcZ9
      have hS2 := hS2.below hcZ9
      have hx7 := boxed_later hx7 hcZ9
      have hx8 := hn9
      have hl8 := hbZ8.size
      try rw [hq9]
      clear hq9 hn9
      obtain ⟨X8, hX8⟩ : ∃ X, Z8.heap.size = X := ⟨_, rfl⟩
      rw [hX8] at hx8 hl8 ⊢
      rw [hX8] at hxx
      refine hK9.out _ _ (HSS.out Z9 hbZ9) (fun hHeld => ?_)
      clear hK9 K9
      try simp only [Act.put, List.setIfInBounds_toArray, List.set_cons_zero, List.set_cons_succ]
      have HT := Lib.hid (two_ok hx7 hx8 hS1 hS2 hap hxx hl7 hl8)
      have c7 := hx7.cell
      have f7 := hx7.frozen
      have c8 := (hx8.kept (grownBy_setCell' Z9 X7 (.slice (some ⟨B1, 0, none⟩) np np)) (fun e => hxx (by injection e with e; exact e.symm))).cell
      have f8 := (hx8.kept (grownBy_setCell' Z9 X7 (.slice (some ⟨B1, 0, none⟩) np np)) (fun e => hxx (by injection e with e; exact e.symm))).frozen
      have hbA := hbZ9.setCell (p := ⟨X7, 0, none⟩) hl7 (.slice (some ⟨B1, 0, none⟩) np np)
      have hbB := hbA.setCell (p := ⟨X8, 0, none⟩) hl8 (.slice (some ⟨B2, 0, none⟩) np np)
      refine tkCall 10 (fun Kt hKt => ?_)
      go_simp
      refine hKt.out _ _ ?_ (fun hT => ?_)
      ·(exact HSS.out _ hbA)
      clear hKt Kt hHeld
      have hHeld := hT
      clear hT
      try simp only [Act.put, tkA, tkB, tkC]
      refine tkCall 11 (fun Kt hKt => ?_)
      go_simp
      refine hKt.out _ _ ?_ (fun hT => ?_)
      ·(exact HSS.out _ hbB)
      clear hKt Kt hHeld
      have hHeld := hT
      clear hT
      try simp only [Act.put, tkA, tkB, tkC]
      refine wpAnyH_done (by kernel_rfl) ?_ _
      exact ⟨X7, X8, B1, B2, R1, R2, rfl, HT.out, hbB⟩
     case rm9 => exact AllReadyH.nil
    case rm8 =>
     refine AllReadyH.cons (o := ?ro10) ?rh10 (fun K10 hK10 => ?rs10) ?rm10
     case rh10 => (simp only [List.getElem?_toArray, List.getElem?_cons_succ, List.getElem?_cons_zero]; rfl)
     case rs10 =>
      go_simp
      obtain ⟨Z10, hq10⟩ : ∃ Z, Z7.alloc (.cells #[.slice none 0 0] 103) = Z := ⟨_, rfl⟩
      have hcZ10 : Below Z7.heap.size Z7 Z10 := by rw [← hq10]; exact (Below.refl _ _).alloc (Nat.le_refl _) _
      have hn10 : Boxed Z10 Z7.heap.size 103 (.slice none 0 0) := by rw [← hq10]; exact Boxed.new _ _ _
      have hbZ10 := hbZ7.trans (hcZ10.mono hbZ7.size)
      have hxx : X7 ≠ Z7.heap.size := by have := hx7.lt; omega
      have hS1 := hS1.below hcZ10
      have hx7 := boxed_later hx7 hcZ10
      have hx8 := hn10
      have hl8 := hbZ7.size
      try rw [hq10]
      clear hq10 hn10
      obtain ⟨X8, hX8⟩ : ∃ X, Z7.heap.size = X := ⟨_, rfl⟩
      rw [hX8] at hx8 hl8 ⊢
      rw [hX8] at hxx
      refine hK10.out _ _ (HSS.out Z10 hbZ10) (fun hHeld => ?_)
      clear hK10 K10
      try simp only [Act.put, List.setIfInBounds_toArray, List.set_cons_zero, List.set_cons_succ]
      refine wpAnyH_ready (rs := [7]) (by kernel_rfl) (by simp) ?_
      refine AllReadyH.cons (o := ?ro11) ?rh11 (fun K11 hK11 => ?rs11) ?rm11
      case rh11 => (simp only [List.getElem?_toArray, List.getElem?_cons_succ, List.getElem?_cons_zero]; rfl)
      case rs11 =>
       go_simp
       refine (HST.out Z10 hbZ10).mono ?_
       rintro e Z11 ⟨B2, R2, rfl, hs11, hcZ11⟩
       have hbZ11 := hbZ10.trans (hcZ11.mono hbZ10.size)
       have hzZ11 := hcZ11.size
       have hap := sets_apart hS1 hs11 (Nat.le_refl _)
       have hS1 := hS1.below hcZ11
       have hx7 := boxed_later hx7 hcZ11
       have hx8 := boxed_later hx8 hcZ11
       have hS2 := hs11.down hbZ10.size
       refine hK11.out _ _ (HSS.out Z11 hbZ11) (fun hHeld => ?_)
       clear hK11 K11
       try simp only [Act.put, List.setIfInBounds_toArray, List.set_cons_zero, List.set_cons_succ]
       have HT := Lib.hid (two_ok hx7 hx8 hS1 hS2 hap hxx hl7 hl8)
       have c7 := hx7.cell
       have f7 := hx7.frozen
       have c8 := (hx8.kept (grownBy_setCell' Z11 X7 (.slice (some ⟨B1, 0, none⟩) np np)) (fun e => hxx (by injection e with e; exact e.symm))).cell
       have f8 := (hx8.kept (grownBy_setCell' Z11 X7 (.slice (some ⟨B1, 0, none⟩) np np)) (fun e => hxx (by injection e with e; exact e.symm))).frozen
       have hbA := hbZ11.setCell (p := ⟨X7, 0, none⟩) hl7 (.slice (some ⟨B1, 0, none⟩) np np)
       have hbB := hbA.setCell (p := ⟨X8, 0, none⟩) hl8 (.slice (some ⟨B2, 0, none⟩) np np)
       refine tkCall 10 (fun Kt hKt => ?_)
       go_simp
       refine hKt.out _ _ ?_ (fun hT => ?_)
       ·(exact HSS.out _ hbA)
       clear hKt Kt hHeld
       have hHeld := hT
       clear hT
       try simp only [Act.put, tkA, tkB, tkC]
       refine tkCall 11 (fun Kt hKt => ?_)
       go_simp
       refine hKt.out _ _ ?_ (fun hT => ?_)
       ·(exact HSS.out _ hbB)
       clear hKt Kt hHeld
       have hHeld := hT
       clear hT
       try simp only [Act.put, tkA, tkB, tkC]
       refine wpAnyH_done (by kernel_rfl) ?_ _
       exact ⟨X7, X8, B1, B2, R1, R2, rfl, HT.out, hbB⟩
      case rm11 => exact AllReadyH.nil
     case rm10 => exact AllReadyH.nil
   case rm7 =>
    refine AllReadyH.cons (o := ?ro12) ?rh12 (fun K12 hK12 => ?rs12) ?rm12
    case rh12 => (simp only [List.getElem?_toArray, List.getElem?_cons_succ, List.getElem?_cons_zero]; rfl)
    case rs12 =>
     go_simp
     obtain ⟨Z12, hq12⟩ : ∃ Z, Z1.alloc (.cells #[.slice none 0 0] 103) = Z := ⟨_, rfl⟩
     have hcZ12 : Below Z1.heap.size Z1 Z12 := by rw [← hq12]; exact (Below.refl _ _).alloc (Nat.le_refl _) _
     have hn12 : Boxed Z12 Z1.heap.size 103 (.slice none 0 0) := by rw [← hq12]; exact Boxed.new _ _ _
     have hbZ12 := hbZ1.trans (hcZ12.mono hbZ1.size)
     have hS1 := hS1.below hcZ12
     have hx8 := hn12
     have hl8 := hbZ1.size
     try rw [hq12]
     clear hq12 hn12
     obtain ⟨X8, hX8⟩ : ∃ X, Z1.heap.size = X := ⟨_, rfl⟩
     rw [hX8] at hx8 hl8 ⊢
     refine hK12.out _ _ (HSS.out Z12 hbZ12) (fun hHeld => ?_)
     clear hK12 K12
     try simp only [Act.put, List.setIfInBounds_toArray, List.set_cons_zero, List.set_cons_succ]
     refine wpAnyH_ready (rs := [7, 8]) (by kernel_rfl) (by simp) ?_
     refine AllReadyH.cons (o := ?ro13) ?rh13 (fun K13 hK13 => ?rs13) ?rm13
     case rh13 => (simp only [List.getElem?_toArray, List.getElem?_cons_succ, List.getElem?_cons_zero]; rfl)
     case rs13 =>
      go_simp
      refine (HST.out Z12 hbZ12).mono ?_
      rintro e Z13 ⟨B2, R2, rfl, hs13, hcZ13⟩
      have hbZ13 := hbZ12.trans (hcZ13.mono hbZ12.size)
      have hzZ13 := hcZ13.size
      have hap := sets_apart hS1 hs13 (Nat.le_refl _)
      have hS1 := hS1.below hcZ13
      have hx8 := boxed_later hx8 hcZ13
      have hS2 := hs13.down hbZ12.size
      refine hK13.out _ _ (HSS.out Z13 hbZ13) (fun hHeld => ?_)
      clear hK13 K13
      try simp only [Act.put, List.setIfInBounds_toArray, List.set_cons_zero, List.set_cons_succ]
      refine wpAnyH_ready (rs := [8]) (by kernel_rfl) (by simp) ?_
      refine AllReadyH.cons (o := ?ro14) ?rh14 (fun K14 hK14 => ?rs14) ?rm14
      case rh14 => (simp only [List.getElem?_toArray, List.getElem?_cons_succ, List.getElem?_cons_zero]; rfl)
      case rs14 =>
       go_simp
       obtain ⟨Z14, hq14⟩ : ∃ Z, Z13.alloc (.cells #[.slice none 0 0] 103) = Z := ⟨_, rfl⟩
       have hcZ14 : Below Z13.heap.size Z13 Z14 := by rw [← hq14]; exact (Below.refl _ _).alloc (Nat.le_refl _) _
       have hn14 : Boxed Z14 Z13.heap.size 103 (.slice none 0 0) := by rw [← hq14]; exact Boxed.new _ _ _
       have hbZ14 := hbZ13.trans (hcZ14.mono hbZ13.size)
       have hxx : Z13.heap.size ≠ X8 := by have := hx8.lt; omega
       have hS1 := hS1.below hcZ14
       have hS2 := hS2.below hcZ14
       have hx8 := boxed_later hx8 hcZ14
       have hx7 := hn14
       have hl7 := hbZ13.size
       try rw [hq14]
       clear hq14 hn14
       obtain ⟨X7, hX7⟩ : ∃ X, Z13.heap.size = X := ⟨_, rfl⟩
       rw [hX7] at hx7 hl7 ⊢
       rw [hX7] at hxx
       refine hK14.out _ _ (HSS.out Z14 hbZ14) (fun hHeld => ?_)
       clear hK14 K14
       try simp only [Act.put, List.setIfInBounds_toArray, List.set_cons_zero, List.set_cons_succ]
       have HT := Lib.hid (two_ok hx7 hx8 hS1 hS2 hap hxx hl7 hl8)
       have c7 := hx7.cell
       have f7 := hx7.frozen
       have c8 := (hx8.kept (grownBy_setCell' Z14 X7 (.slice (some ⟨B1, 0, none⟩) np np)) (fun e => hxx (by injection e with e; exact e.symm))).cell
       have f8 := (hx8.kept (grownBy_setCell' Z14 X7 (.slice (some ⟨B1, 0, none⟩) np np)) (fun e => hxx (by injection e with e; exact e.symm))).frozen
       have hbA := hbZ14.setCell (p := ⟨X7, 0, none⟩) hl7 (.slice (some ⟨B1, 0, none⟩) np np)
       have hbB := hbA.setCell (p := ⟨X8, 0, none⟩) hl8 (.slice (some ⟨B2, 0, none⟩) np np)
       refine tkCall 10 (fun Kt hKt => ?_)
       go_simp
       refine hKt.out _ _ ?_ (fun hT => ?_)
       ·(exact HSS.out _ hbA)
       clear hKt Kt hHeld
       have hHeld := hT
       clear hT
       try simp only [Act.put, tkA, tkB, tkC]
       refine tkCall 11 (fun Kt hKt => ?_)
       go_simp
       refine hKt.out _ _ ?_ (fun hT => ?_)
       ·(exact HSS.out _ hbB)
       clear hKt Kt hHeld
       have hHeld := hT
       clear hT
       try simp only [Act.put, tkA, tkB, tkC]
       refine wpAnyH_done (by kernel_rfl) ?_ _
       exact ⟨X7, X8, B1, B2, R1, R2, rfl, HT.out, hbB⟩
      case rm14 => exact AllReadyH.nil
     case rm13 =>
      refine AllReadyH.cons (o := ?ro15) ?rh15 (fun K15 hK15 => ?rs15) ?rm15
      case rh15 => (simp only [List.getElem?_toArray, List.getElem?_cons_succ, List.getElem?_cons_zero]; rfl)
      case rs15 =>
       go_simp
       obtain ⟨Z15, hq15⟩ : ∃ Z, Z12.alloc (.cells #[.slice none 0 0] 103) = Z := ⟨_, rfl⟩
       have hcZ15 : Below Z12.heap.size Z12 Z15 := by rw [← hq15]; exact (Below.refl _ _).alloc (Nat.le_refl _) _
       have hn15 : Boxed Z15 Z12.heap.size 103 (.slice none 0 0) := by rw [← hq15]; exact Boxed.new _ _ _
       have hbZ15 := hbZ12.trans (hcZ15.mono hbZ12.size)
       have hxx : Z12.heap.size ≠ X8 := by have := hx8.lt; omega
       have hS1 := hS1.below hcZ15
       have hx8 := boxed_later hx8 hcZ15
       have hx7 := hn15
       have hl7 := hbZ12.size
       try rw [hq15]
       clear hq15 hn15
       obtain ⟨X7, hX7⟩ : ∃ X, Z12.heap.size = X := ⟨_, rfl⟩
       rw [hX7] at hx7 hl7 ⊢
       rw [hX7] at hxx
       refine hK15.out _ _ (HSS.out Z15 hbZ15) (fun hHeld => ?_)
       clear hK15 K15
       try simp only [Act.put, List.setIfInBounds_toArray, List.set_cons_zero, List.set_cons_succ]
       refine wpAnyH_ready (rs := [7]) (by kernel_rfl) (by simp) ?_
       refine AllReadyH.cons (o := ?ro16) ?rh16 (fun K16 hK16 => ?rs16) ?rm16
       case rh16 => (simp only [List.getElem?_toArray, List.getElem?_cons_succ, List.getElem?_cons_zero]; rfl)
       case rs16 =>
        go_simp
        refine (HST.out Z15 hbZ15).mono ?_
        rintro e Z16 ⟨B2, R2, rfl, hs16, hcZ16⟩
        have hbZ16 := hbZ15.trans (hcZ16.mono hbZ15.size)
        have hzZ16 := hcZ16.size
        have hap := sets_apart hS1 hs16 (Nat.le_refl _)
        have hS1 := hS1.below hcZ16
        have hx7 := boxed_later hx7 hcZ16
        have hx8 := boxed_later hx8 hcZ16
        have hS2 := hs16.down hbZ15.size
        refine hK16.out _ _ (HSS.out Z16 hbZ16) (fun hHeld => ?_)
        clear hK16 K16
        try simp only [Act.put, List.setIfInBounds_toArray, List.set_cons_zero, List.set_cons_succ]
        have HT := Lib.hid (two_ok hx7 hx8 hS1 hS2 hap hxx hl7 hl8)
        have c7 := hx7.cell
        have f7 := hx7.frozen
        have c8 := (hx8.kept (grownBy_setCell' Z16 X7 (.slice (some ⟨B1, 0, none⟩) np np)) (fun e => hxx (by injection e with e; exact e.symm))).cell
        have f8 := (hx8.kept (grownBy_setCell' Z16 X7 (.slice (some ⟨B1, 0, none⟩) np np)) (fun e => hxx (by injection e with e; exact e.symm))).frozen
        have hbA := hbZ16.setCell (p := ⟨X7, 0, none⟩) hl7 (.slice (some ⟨B1, 0, none⟩) np np)
        have hbB := hbA.setCell (p := ⟨X8, 0, none⟩) hl8 (.slice (some ⟨B2, 0, none⟩) np np)
        refine tkCall 10 (fun Kt hKt => ?_)
        go_simp
        refine hKt.out _ _ ?_ (fun hT => ?_)
        ·(exact HSS.out _ hbA)
        clear hKt Kt hHeld
        have hHeld := hT
        clear hT
        try simp only [Act.put, tkA, tkB, tkC]
        refine tkCall 11 (fun Kt hKt => ?_)
        go_simp
        refine hKt.out _ _ ?_ (fun hT => ?_)
        ·(exact HSS.out _ hbB)
        clear hKt Kt hHeld
        have hHeld := hT
        clear hT
        try simp only [Act.put, tkA, tkB, tkC]
        refine wpAnyH_done (by kernel_rfl) ?_ _
        exact ⟨X7, X8, B1, B2, R1, R2, rfl, HT.out, hbB⟩
       case rm16 => exact AllReadyH.nil
      case rm15 => exact AllReadyH.nil
    case rm12 => exact AllReadyH.nil
 case rm1 =>
  refine AllReadyH.cons (o := ?ro17) ?rh17 (fun K17 hK17 => ?rs17) ?rm17
  case rh17 => (simp only [List.getElem?_toArray, List.getElem?_cons_succ, List.getElem?_cons_zero]; rfl)
  case rs17 =>
   go_simp
   obtain ⟨Z17, hq17⟩ : ∃ Z, Z0.alloc (.cells #[.slice none 0 0] 103) = Z := ⟨_, rfl⟩
   have hcZ17 : Below Z0.heap.size Z0 Z17 := by rw [← hq17]; exact (Below.refl _ _).alloc (Nat.le_refl _) _
   have hn17 : Boxed Z17 Z0.heap.size 103 (.slice none 0 0) := by rw [← hq17]; exact Boxed.new _ _ _
   have hbZ17 := hbZ0.trans (hcZ17.mono hbZ0.size)
   have hx7 := hn17
   have hl7 := hbZ0.size
   try rw [hq17]
   clear hq17 hn17
   obtain ⟨X7, hX7⟩ : ∃ X, Z0.heap.size = X := ⟨_, rfl⟩
   rw [hX7] at hx7 hl7 ⊢
   refine hK17.out _ _ (HSS.out Z17 hbZ17) (fun hHeld => ?_)
   clear hK17 K17
   try simp only [Act.put, List.setIfInBounds_toArray, List.set_cons_zero, List.set_cons_succ]
   refine wpAnyH_ready (rs := [3, 9]) (by kernel_rfl) (by simp) ?_
   refine AllReadyH.cons (o := ?ro18) ?rh18 (fun K18 hK18 => ?rs18) ?rm18
   case rh18 => (simp only [List.getElem?_toArray, List.getElem?_cons_succ, List.getElem?_cons_zero]; rfl)
   case rs18 =>
    go_simp
    refine (HST.out Z17 hbZ17).mono ?_
    rintro e Z18 ⟨B1, R1, rfl, hs18, hcZ18⟩
    have hbZ18 := hbZ17.trans (hcZ18.mono hbZ17.size)
    have hzZ18 := hcZ18.size
    have hx7 := boxed_later hx7 hcZ18
    have hS1 := hs18.down hbZ17.size
    refine hK18.out _ _ (HSS.out Z18 hbZ18) (fun hHeld => ?_)
    clear hK18 K18
    try simp only [Act.put, List.setIfInBounds_toArray, List.set_cons_zero, List.set_cons_succ]
    refine wpAnyH_ready (rs := [7, 9]) (by kernel_rfl) (by simp) ?_
    refine AllReadyH.cons (o := ?ro19) ?rh19 (fun K19 hK19 => ?rs19) ?rm19
    case rh19 => (simp only [List.getElem?_toArray, List.getElem?_cons_succ, List.getElem?_cons_zero]; rfl)
    case rs19 =>
     go_simp
     refine (HST.out Z18 hbZ18).mono ?_
     rintro e Z19 ⟨B2, R2, rfl, hs19, hcZ19⟩
     have hbZ19 := hbZ18.trans (hcZ19.mono hbZ18.size)
     have hzZ19 := hcZ19.size
     have hap := sets_apart hS1 hs19 (Nat.le_refl _)
     have hS1 := hS1.below hcZ19
     have hx7 := boxed_later hx7 hcZ19
     have hS2 := hs19.down hbZ18.size
     refine hK19.out _ _ (HSS.out Z19 hbZ19) (fun hHeld => ?_)
     clear hK19 K19
     try simp only [Act.put, List.setIfInBounds_toArray, List.set_cons_zero, List.set_cons_succ]
     refine wpAnyH_ready (rs := [9]) (by kernel_rfl) (by simp) ?_
     refine AllReadyH.cons (o := ?ro20) ?rh20 (fun K20 hK20 => ?rs20) ?rm20
     case rh20 => (simp only [List.getElem?_toArray, List.getElem?_cons_succ, List.getElem?_cons_zero]; rfl)
     case rs20 =>
      go_simp
      obtain ⟨Z20, hq20⟩ : ∃ Z, Z19.alloc (.cells #[.slice none 0 0] 103) = Z := ⟨_, rfl⟩
      have hcZ20 : Below Z19.heap.size Z19 Z20 := by rw [← hq20]; exact (Below.refl _ _).alloc (Nat.le_refl _) _
      have hn20 : Boxed Z20 Z19.heap.size 103 (.slice none 0 0) := by rw [← hq20]; exact Boxed.new _ _ _
      have hbZ20 := hbZ19.trans (hcZ20.mono hbZ19.size)
      have hxx : X7 ≠ Z19.heap.size := by have := hx7.lt; omega
      have hS1 := hS1.below hcZ20
      have hS2 := hS2.below hcZ20
      have hx7 := boxed_later hx7 hcZ20
      have hx8 := hn20
      have hl8 := hbZ19.size
      try rw [hq20]
      clear hq20 hn20
      obtain ⟨X8, hX8⟩ : ∃ X, Z19.heap.size = X := ⟨_, rfl⟩
      rw [hX8] at hx8 hl8 ⊢
      rw [hX8] at hxx
      refine hK20.out _ _ (HSS.out Z20 hbZ20) (fun hHeld => ?_)
      clear hK20 K20
      try simp only [Act.put, List.setIfInBounds_toArray, List.set_cons_zero, List.set_cons_succ]
      have HT := Lib.hid (two_ok hx7 hx8 hS1 hS2 hap hxx hl7 hl8)
      have c7 := hx7.cell
      have f7 := hx7.frozen
      have c8 := (hx8.kept (grownBy_setCell' Z20 X7 (.slice (some ⟨B1, 0, none⟩) np np)) (fun e => hxx (by injection e with e; exact e.symm))).cell
      have f8 := (hx8.kept (grownBy_setCell' Z20 X7 (.slice (some ⟨B1, 0, none⟩) np np)) (fun e => hxx (by injection e with e; exact e.symm))).frozen
      have hbA := hbZ20.setCell (p := ⟨X7, 0, none⟩) hl7 (.slice (some ⟨B1, 0, none⟩) np np)
      have hbB := hbA.setCell (p := ⟨X8, 0, none⟩) hl8 (.slice (some ⟨B2, 0, none⟩) np np)
      refine tkCall 10 (fun Kt hKt => ?_)
      go_simp
      refine hKt.out _ _ ?_ (fun hT => ?_)
      ·(exact HSS.out _ hbA)
      clear hKt Kt hHeld
      have hHeld := hT
      clear hT
      try simp only [Act.put, tkA, tkB, tkC]
      refine tkCall 11 (fun Kt hKt => ?_)
      go_simp
      refine hKt.out _ _ ?_ (fun hT => ?_)
      ·(exact HSS.out _ hbB)
      clear hKt Kt hHeld
      have hHeld := hT
      clear hT
      try simp only [Act.put, tkA, tkB, tkC]
      refine wpAnyH_done (by kernel_rfl) ?_ _
      exact ⟨X7, X8, B1, B2, R1, R2, rfl, HT.out, hbB⟩
     case rm20 => exact AllReadyH.nil
    case rm19 =>
     refine AllReadyH.cons (o := ?ro21) ?rh21 (fun K21 hK21 => ?rs21) ?rm21
     case rh21 => (simp only [List.getElem?_toArray, List.getElem?_cons_succ, List.getElem?_cons_zero]; rfl)
     case rs21 =>
      go_simp
      obtain ⟨Z21, hq21⟩ : ∃ Z, Z18.alloc (.cells #[.slice none 0 0] 103) = Z := ⟨_, rfl⟩
      have hcZ21 : Below Z18.heap.size Z18 Z21 := by rw [← hq21]; exact (Below.refl _ _).alloc (Nat.le_refl _) _
      have hn21 : Boxed Z21 Z18.heap.size 103 (.slice none 0 0) := by rw [← hq21]; exact Boxed.new _ _ _
      have hbZ21 := hbZ18.trans (hcZ21.mono hbZ18.size)
      have hxx : X7 ≠ Z18.heap.size := by have := hx7.lt; omega
      have hS1 := hS1.below hcZ21
      have hx7 := boxed_later hx7 hcZ21
      have hx8 := hn21
      have hl8 := hbZ18.size
      try rw [hq21]
      clear hq21 hn21
      obtain ⟨X8, hX8⟩ : ∃ X, Z18.heap.size = X := ⟨_, rfl⟩
      rw [hX8] at hx8 hl8 ⊢
      rw [hX8] at hxx
      refine hK21.out _ _ (HSS.out Z21 hbZ21) (fun hHeld => ?_)
      clear hK21 K21
      try simp only [Act.put, List.setIfInBounds_toArray, List.set_cons_zero, List.set_cons_succ]
      refine wpAnyH_ready (rs := [7]) (by kernel_rfl) (by simp) ?_
      refine AllReadyH.cons (o := ?ro22) ?rh22 (fun K22 hK22 => ?rs22) ?rm22
      case rh22 => (simp only [List.getElem?_toArray, List.getElem?_cons_succ, List.getElem?_cons_zero]; rfl)
      case rs22 =>
       go_simp
       refine (HST.out Z21 hbZ21).mono ?_
       rintro e Z22 ⟨B2, R2, rfl, hs22, hcZ22⟩
       have hbZ22 := hbZ21.trans (hcZ22.mono hbZ21.size)
       have hzZ22 := hcZ22.size
       have hap := sets_apart hS1 hs22 (Nat.le_refl _)
       have hS1 := hS1.below hcZ22
       have hx7 := boxed_later hx7 hcZ22
       have hx8 := boxed_later hx8 hcZ22
       have hS2 := hs22.down hbZ21.size
       refine hK22.out _ _ (HSS.out Z22 hbZ22) (fun hHeld => ?_)
       clear hK22 K22
       try simp only [Act.put, List.setIfInBounds_toArray, List.set_cons_zero, List.set_cons_succ]
       have HT := Lib.hid (two_ok hx7 hx8 hS1 hS2 hap hxx hl7 hl8)
       have c7 := hx7.cell
       have f7 := hx7.frozen
       have c8 := (hx8.kept (grownBy_setCell' Z22 X7 (.slice (some ⟨B1, 0, none⟩) np np)) (fun e => hxx (by injection e with e; exact e.symm))).cell
       have f8 := (hx8.kept (grownBy_setCell' Z22 X7 (.slice (some ⟨B1, 0, none⟩) np np)) (fun e => hxx (by injection e with e; exact e.symm))).frozen
       have hbA := hbZ22.setCell (p := ⟨X7, 0, none⟩) hl7 (.slice (some ⟨B1, 0, none⟩) np np)
       have hbB := hbA.setCell (p := ⟨X8, 0, none⟩) hl8 (.slice (some ⟨B2, 0, none⟩) np np)
       refine tkCall 10 (fun Kt hKt => ?_)
       go_simp
       refine hKt.out _ _ ?_ (fun hT => ?_)
       ·(exact HSS.out _ hbA)
       clear hKt Kt hHeld
       have hHeld := hT
       clear hT
       try simp only [Act.put, tkA, tkB, tkC]
       refine tkCall 11 (fun Kt hKt => ?_)
       go_simp
       refine hKt.out _ _ ?_ (fun hT => ?_)
       ·(exact HSS.out _ hbB)
       clear hKt Kt hHeld
       have hHeld := hT
       clear hT
       try simp only [Act.put, tkA, tkB, tkC]
       refine wpAnyH_done (by kernel_rfl) ?_ _
       exact ⟨X7, X8, B1, B2, R1, R2, rfl, HT.out, hbB⟩
      case rm22 => exact AllReadyH.nil
     case rm21 => exact AllReadyH.nil
   case rm18 =>
    refine AllReadyH.cons (o := ?ro23) ?rh23 (fun K23 hK23 => ?rs23) ?rm23
    case rh23 => (simp only [List.getElem?_toArray, List.getElem?_cons_succ, List.getElem?_cons_zero]; rfl)
    case rs23 =>
     go_simp
     obtain ⟨Z23, hq23⟩ : ∃ Z, Z17.alloc (.cells #[.slice none 0 0] 103) = Z := ⟨_, rfl⟩
     have hcZ23 : Below Z17.heap.size Z17 Z23 := by rw [← hq23]; exact (Below.refl _ _).alloc (Nat.le_refl _) _
     have hn23 : Boxed Z23 Z17.heap.size 103 (.slice none 0 0) := by rw [← hq23]; exact Boxed.new _ _ _
     have hbZ23 := hbZ17.trans (hcZ23.mono hbZ17.size)
     have hxx : X7 ≠ Z17.heap.size := by have := hx7.lt; omega
     have hx7 := boxed_later hx7 hcZ23
     have hx8 := hn23
     have hl8 := hbZ17.size
     try rw [hq23]
     clear hq23 hn23
     obtain ⟨X8, hX8⟩ : ∃ X, Z17.heap.size = X := ⟨_, rfl⟩
     rw [hX8] at hx8 hl8 ⊢
     rw [hX8] at hxx
     refine hK23.out _ _ (HSS.out Z23 hbZ23) (fun hHeld => ?_)
     clear hK23 K23
     try simp only [Act.put, List.setIfInBounds_toArray, List.set_cons_zero, List.set_cons_succ]
     refine wpAnyH_ready (rs := [3]) (by kernel_rfl) (by simp) ?_
     refine AllReadyH.cons (o := ?ro24) ?rh24 (fun K24 hK24 => ?rs24) ?rm24
     case rh24 => (simp only [List.getElem?_toArray, List.getElem?_cons_succ, List.getElem?_cons_zero]; rfl)
     case rs24 =>
      go_simp
      refine (HST.out Z23 hbZ23).mono ?_
      rintro e Z24 ⟨B1, R1, rfl, hs24, hcZ24⟩
      have hbZ24 := hbZ23.trans (hcZ24.mono hbZ23.size)
      have hzZ24 := hcZ24.size
      have hx7 := boxed_later hx7 hcZ24
      have hx8 := boxed_later hx8 hcZ24
      have hS1 := hs24.down hbZ23.size
      refine hK24.out _ _ (HSS.out Z24 hbZ24) (fun hHeld => ?_)
      clear hK24 K24
      try simp only [Act.put, List.setIfInBounds_toArray, List.set_cons_zero, List.set_cons_succ]
      refine wpAnyH_ready (rs := [7]) (by kernel_rfl) (by simp) ?_
      refine AllReadyH.cons (o := ?ro25) ?rh25 (fun K25 hK25 => ?rs25) ?rm25
      case rh25 => (simp only [List.getElem?_toArray, List.getElem?_cons_succ, List.getElem?_cons_zero]; rfl)
      case rs25 =>
       go_simp
       refine (HST.out Z24 hbZ24).mono ?_
       rintro e Z25 ⟨B2, R2, rfl, hs25, hcZ25⟩
       have hbZ25 := hbZ24.trans (hcZ25.mono hbZ24.size)
       have hzZ25 := hcZ25.size
       have hap := sets_apart hS1 hs25 (Nat.le_refl _)
       have hS1 := hS1.below hcZ25
       have hx7 := boxed_later hx7 hcZ25
       have hx8 := boxed_later hx8 hcZ25
       have hS2 := hs25.down hbZ24.size
       refine hK25.out _ _ (HSS.out Z25 hbZ25) (fun hHeld => ?_)
       clear hK25 K25
       try simp only [Act.put, List.setIfInBounds_toArray, List.set_cons_zero, List.set_cons_succ]
       have HT := Lib.hid (two_ok hx7 hx8 hS1 hS2 hap hxx hl7 hl8)
       have c7 := hx7.cell
       have f7 := hx7.frozen
       have c8 := (hx8.kept (grownBy_setCell' Z25 X7 (.slice (some ⟨B1, 0, none⟩) np np)) (fun e => hxx (by injection e with e; exact e.symm))).cell
       have f8 := (hx8.kept (grownBy_setCell' Z25 X7 (.slice (some ⟨B1, 0, none⟩) np np)) (fun e => hxx (by injection e with e; exact e.symm))).frozen
       have hbA := hbZ25.setCell (p := ⟨X7, 0, none⟩) hl7 (.slice (some ⟨B1, 0, none⟩) np np)
       have hbB := hbA.setCell (p := ⟨X8, 0, none⟩) hl8 (.slice (some ⟨B2, 0, none⟩) np np)
       refine tkCall 10 (fun Kt hKt => ?_)
       go_simp
       refine hKt.out _ _ ?_ (fun hT => ?_)
       ·(exact HSS.out _ hbA)
       clear hKt Kt hHeld
       have hHeld := hT
       clear hT
       try simp only [Act.put, tkA, tkB, tkC]
       refine tkCall 11 (fun Kt hKt => ?_)
       go_simp
       refine hKt.out _ _ ?_ (fun hT => ?_)
       ·(exact HSS.out _ hbB)
       clear hKt Kt hHeld
       have hHeld := hT
       clear hT
       try simp only [Act.put, tkA, tkB, tkC]
       refine wpAnyH_done (by kernel_rfl) ?_ _
       exact ⟨X7, X8, B1, B2, R1, R2, rfl, HT.out, hbB⟩
      case rm25 => exact AllReadyH.nil
     case rm24 => exact AllReadyH.nil
    case rm23 => exact AllReadyH.nil
  case rm17 =>
   refine AllReadyH.cons (o := ?ro26) ?rh26 (fun K26 hK26 => ?rs26) ?rm26
   case rh26 => (simp only [List.getElem?_toArray, List.getElem?_cons_succ, List.getElem?_cons_zero]; rfl)
   case rs26 =>
    go_simp
    obtain ⟨Z26, hq26⟩ : ∃ Z, Z0.alloc (.cells #[.slice none 0 0] 103) = Z := ⟨_, rfl⟩
    have hcZ26 : Below Z0.heap.size Z0 Z26 := by rw [← hq26]; exact (Below.refl _ _).alloc (Nat.le_refl _) _
    have hn26 : Boxed Z26 Z0.heap.size 103 (.slice none 0 0) := by rw [← hq26]; exact Boxed.new _ _ _
    have hbZ26 := hbZ0.trans (hcZ26.mono hbZ0.size)
    have hx8 := hn26
    have hl8 := hbZ0.size
    try rw [hq26]
    clear hq26 hn26
    obtain ⟨X8, hX8⟩ : ∃ X, Z0.heap.size = X := ⟨_, rfl⟩
    rw [hX8] at hx8 hl8 ⊢
    refine hK26.out _ _ (HSS.out Z26 hbZ26) (fun hHeld => ?_)
    clear hK26 K26
    try simp only [Act.put, List.setIfInBounds_toArray, List.set_cons_zero, List.set_cons_succ]
    refine wpAnyH_ready (rs := [3, 8]) (by kernel_rfl) (by simp) ?_
    refine AllReadyH.cons (o := ?ro27) ?rh27 (fun K27 hK27 => ?rs27) ?rm27
    case rh27 => (simp only [List.getElem?_toArray, List.getElem?_cons_succ, List.getElem?_cons_zero]; rfl)
    case rs27 =>
     go_simp
     refine (HST.out Z26 hbZ26).mono ?_
     rintro e Z27 ⟨B1, R1, rfl, hs27, hcZ27⟩
     have hbZ27 := hbZ26.trans (hcZ27.mono hbZ26.size)
     have hzZ27 := hcZ27.size
     have hx8 := boxed_later hx8 hcZ27
     have hS1 := hs27.down hbZ26.size
     refine hK27.out _ _ (HSS.out Z27 hbZ27) (fun hHeld => ?_)
     clear hK27 K27
     try simp only [Act.put, List.setIfInBounds_toArray, List.set_cons_zero, List.set_cons_succ]
     refine wpAnyH_ready (rs := [7, 8]) (by kernel_rfl) (by simp) ?_
     refine AllReadyH.cons (o := ?ro28) ?rh28 (fun K28 hK28 => ?rs28) ?rm28
     case rh28 => (simp only [List.getElem?_toArray, List.getElem?_cons_succ, List.getElem?_cons_zero]; rfl)
     case rs28 =>
      go_simp
      refine (HST.out Z27 hbZ27).mono ?_
      rintro e Z28 ⟨B2, R2, rfl, hs28, hcZ28⟩
      have hbZ28 := hbZ27.trans (hcZ28.mono hbZ27.size)
      have hzZ28 := hcZ28.size
      have hap := sets_apart hS1 hs28 (Nat.le_refl _)
      have hS1 := hS1.below hcZ28
      have hx8 := boxed_later hx8 hcZ28
      have hS2 := hs28.down hbZ27.size
      refine hK28.out _ _ (HSS.out Z28 hbZ28) (fun hHeld => ?_)
      clear hK28 K28
      try simp only [Act.put, List.setIfInBounds_toArray, List.set_cons_zero, List.set_cons_succ]
      refine wpAnyH_ready (rs := [8]) (by kernel_rfl) (by simp) ?_
      refine AllReadyH.cons (o := ?ro29) ?rh29 (fun K29 hK29 => ?rs29) ?rm29
      case rh29 => (simp only [List.getElem?_toArray, List.getElem?_cons_succ, List.getElem?_cons_zero]; rfl)
      case rs29 =>
       go_simp
       obtain ⟨Z29, hq29⟩ : ∃ Z, Z28.alloc (.cells #[.slice none 0 0] 103) = Z := ⟨_, rfl⟩
       have hcZ29 : Below Z28.heap.size Z28 Z29 := by rw [← hq29]; exact (Below.refl _ _).alloc (Nat.le_refl _) _
       have hn29 : Boxed Z29 Z28.heap.size 103 (.slice none 0 0) := by rw [← hq29]; exact Boxed.new _ _ _
       have hbZ29 := hbZ28.trans (hcZ29.mono hbZ28.size)
       have hxx : Z28.heap.size ≠ X8 := by have := hx8.lt; omega
       have hS1 := hS1.below hcZ29
       have hS2 := hS2.below hcZ29
       have hx8 := boxed_later hx8 hcZ29
       have hx7 := hn29
       have hl7 := hbZ28.size
       try rw [hq29]
       clear hq29 hn29
       obtain ⟨X7, hX7⟩ : ∃ X, Z28.heap.size = X := ⟨_, rfl⟩
       rw [hX7] at hx7 hl7 ⊢
       rw [hX7] at hxx
       refine hK29.out _ _ (HSS.out Z29 hbZ29) (fun hHeld => ?_)
       clear hK29 K29
       try simp only [Act.put, List.setIfInBounds_toArray, List.set_cons_zero, List.set_cons_succ]
       have HT := Lib.hid (two_ok hx7 hx8 hS1 hS2 hap hxx hl7 hl8)
       have c7 := hx7.cell
       have f7 := hx7.frozen
       have c8 := (hx8.kept (grownBy_setCell' Z29 X7 (.slice (some ⟨B1, 0, none⟩) np np)) (fun e => hxx (by injection e with e; exact e.symm))).cell
       have f8 := (hx8.kept (grownBy_setCell' Z29 X7 (.slice (some ⟨B1, 0, none⟩) np np)) (fun e => hxx (by injection e with e; exact e.symm))).frozen
       have hbA := hbZ29.setCell (p := ⟨X7, 0, none⟩) hl7 (.slice (some ⟨B1, 0, none⟩) np np)
       have hbB := hbA.setCell (p := ⟨X8, 0, none⟩) hl8 (.slice (some ⟨B2, 0, none⟩) np np)
       refine tkCall 10 (fun Kt hKt => ?_)
       go_simp
       refine hKt.out _ _ ?_ (fun hT => ?_)
       ·(exact HSS.out _ hbA)
       clear hKt Kt hHeld
       have hHeld := hT
       clear hT
       try simp only [Act.put, tkA, tkB, tkC]
       refine tkCall 11 (fun Kt hKt => ?_)
       go_simp
       refine hKt.out _ _ ?_ (fun hT => ?_)
       ·(exact HSS.out _ hbB)
       clear hKt Kt hHeld
       have hHeld := hT
       clear hT
       try simp only [Act.put, tkA, tkB, tkC]
       refine wpAnyH_done (by kernel_rfl) ?_ _
       exact ⟨X7, X8, B1, B2, R1, R2, rfl, HT.out, hbB⟩
      case rm29 => exact AllReadyH.nil
     case rm28 =>
      refine AllReadyH.cons (o := ?ro30) ?rh30 (fun K30 hK30 => ?rs30) ?rm30
      case rh30 => (simp only [List.getElem?_toArray, List.getElem?_cons_succ, List.getElem?_cons_zero]; rfl)
      case rs30 =>
       go_simp
       obtain ⟨Z30, hq30⟩ : ∃ Z, Z27.alloc (.cells #[.slice none 0 0] 103) = Z := ⟨_, rfl⟩
       have hcZ30 : Below Z27.heap.size Z27 Z30 := by rw [← hq30]; exact (Below.refl _ _).alloc (Nat.le_refl _) _
       have hn30 : Boxed Z30 Z27.heap.size 103 (.slice none 0 0) := by rw [← hq30]; exact Boxed.new _ _ _
       have hbZ30 := hbZ27.trans (hcZ30.mono hbZ27.size)
       have hxx : Z27.heap.size ≠ X8 := by have := hx8.lt; omega
       have hS1 := hS1.below hcZ30
       have hx8 := boxed_later hx8 hcZ30
       have hx7 := hn30
       have hl7 := hbZ27.size
       try rw [hq30]
       clear hq30 hn30
       obtain ⟨X7, hX7⟩ : ∃ X, Z27.heap.size = X := ⟨_, rfl⟩
       rw [hX7] at hx7 hl7 ⊢
       rw [hX7] at hxx
       refine hK30.out _ _ (HSS.out Z30 hbZ30) (fun hHeld => ?_)
       clear hK30 K30
       try simp only [Act.put, List.setIfInBounds_toArray, List.set_cons_zero, List.set_cons_succ]
       refine wpAnyH_ready (rs := [7]) (by kernel_rfl) (by simp) ?_
       refine AllReadyH.cons (o := ?ro31) ?rh31 (fun K31 hK31 => ?rs31) ?rm31
       case rh31 => (simp only [List.getElem?_toArray, List.getElem?_cons_succ, List.getElem?_cons_zero]; rfl)
       case rs31 =>
        go_simp
        refine (HST.out Z30 hbZ30).mono ?_
        rintro e Z31 ⟨B2, R2, rfl, hs31, hcZ31⟩
        have hbZ31 := hbZ30.trans (hcZ31.mono hbZ30.size)
        have hzZ31 := hcZ31.size
        have hap := sets_apart hS1 hs31 (Nat.le_refl _)
        have hS1 := hS1.below hcZ31
        have hx7 := boxed_later hx7 hcZ31
        have hx8 := boxed_later hx8 hcZ31
        have hS2 := hs31.down hbZ30.size
        refine hK31.out _ _ (HSS.out Z31 hbZ31) (fun hHeld => ?_)
        clear hK31 K31
        try simp only [Act.put, List.setIfInBounds_toArray, List.set_cons_zero, List.set_cons_succ]
        have HT := Lib.hid (two_ok hx7 hx8 hS1 hS2 hap hxx hl7 hl8)
        have c7 := hx7.cell
        have f7 := hx7.frozen
        have c8 := (hx8.kept (grownBy_setCell' Z31 X7 (.slice (some ⟨B1, 0, none⟩) np np)) (fun e => hxx (by injection e with e; exact e.symm))).cell
        have f8 := (hx8.kept (grownBy_setCell' Z31 X7 (.slice (some ⟨B1, 0, none⟩) np np)) (fun e => hxx (by injection e with e; exact e.symm))).frozen
        have hbA := hbZ31.setCell (p := ⟨X7, 0, none⟩) hl7 (.slice (some ⟨B1, 0, none⟩) np np)
        have hbB := hbA.setCell (p := ⟨X8, 0, none⟩) hl8 (.slice (some ⟨B2, 0, none⟩) np np)
        refine tkCall 10 (fun Kt hKt => ?_)
        go_simp
        refine hKt.out _ _ ?_ (fun hT => ?_)
        ·(exact HSS.out _ hbA)
        clear hKt Kt hHeld
        have hHeld := hT
        clear hT
        try simp only [Act.put, tkA, tkB, tkC]
        refine tkCall 11 (fun Kt hKt => ?_)
        go_simp
        refine hKt.out _ _ ?_ (fun hT => ?_)
        ·(exact HSS.out _ hbB)
        clear hKt Kt hHeld
        have hHeld := hT
        clear hT
        try simp only [Act.put, tkA, tkB, tkC]
        refine wpAnyH_done (by kernel_rfl) ?_ _
        exact ⟨X7, X8, B1, B2, R1, R2, rfl, HT.out, hbB⟩
       case rm31 => exact AllReadyH.nil
      case rm30 => exact AllReadyH.nil
    case rm27 =>
     refine AllReadyH.cons (o := ?ro32) ?rh32 (fun K32 hK32 => ?rs32) ?rm32
     case rh32 => (simp only [List.getElem?_toArray, List.getElem?_cons_succ, List.getElem?_cons_zero]; rfl)
     case rs32 =>
      go_simp
      obtain ⟨Z32, hq32⟩ : ∃ Z, Z26.alloc (.cells #[.slice none 0 0] 103) = Z := ⟨_, rfl⟩
      have hcZ32 : Below Z26.heap.size Z26 Z32 := by rw [← hq32]; exact (Below.refl _ _).alloc (Nat.le_refl _) _
      have hn32 : Boxed Z32 Z26.heap.size 103 (.slice none 0 0) := by rw [← hq32]; exact Boxed.new _ _ _
      have hbZ32 := hbZ26.trans (hcZ32.mono hbZ26.size)
      have hxx : Z26.heap.size ≠ X8 := by have := hx8.lt; omega
      have hx8 := boxed_later hx8 hcZ32
      have hx7 := hn32
      have hl7 := hbZ26.size
      try rw [hq32]
      clear hq32 hn32
      obtain ⟨X7, hX7⟩ : ∃ X, Z26.heap.size = X := ⟨_, rfl⟩
      rw [hX7] at hx7 hl7 ⊢
      rw [hX7] at hxx
      refine hK32.out _ _ (HSS.out Z32 hbZ32) (fun hHeld => ?_)
      clear hK32 K32
      try simp only [Act.put, List.setIfInBounds_toArray, List.set_cons_zero, List.set_cons_succ]
      refine wpAnyH_ready (rs := [3]) (by kernel_rfl) (by simp) ?_
      refine AllReadyH.cons (o := ?ro33) ?rh33 (fun K33 hK33 => ?rs33) ?rm33
      case rh33 => (simp only [List.getElem?_toArray, List.getElem?_cons_succ, List.getElem?_cons_zero]; rfl)
      case rs33 =>
       go_simp
       refine (HST.out Z32 hbZ32).mono ?_
       rintro e Z33 ⟨B1, R1, rfl, hs33, hcZ33⟩
       have hbZ33 := hbZ32.trans (hcZ33.mono hbZ32.size)
       have hzZ33 := hcZ33.size
       have hx7 := boxed_later hx7 hcZ33
       have hx8 := boxed_later hx8 hcZ33
       have hS1 := hs33.down hbZ32.size
       refine hK33.out _ _ (HSS.out Z33 hbZ33) (fun hHeld => ?_)
       clear hK33 K33
       try simp only [Act.put, List.setIfInBounds_toArray, List.set_cons_zero, List.set_cons_succ]
       refine wpAnyH_ready (rs := [7]) (by kernel_rfl) (by simp) ?_
       refine AllReadyH.cons (o := ?ro34) ?rh34 (fun K34 hK34 => ?rs34) ?rm34
       case rh34 => (simp only [List.getElem?_toArray, List.getElem?_cons_succ, List.getElem?_cons_zero]; rfl)
       case rs34 =>
        go_simp
        refine (HST.out Z33 hbZ33).mono ?_
        rintro e Z34 ⟨B2, R2, rfl, hs34, hcZ34⟩
        have hbZ34 := hbZ33.trans (hcZ34.mono hbZ33.size)
        have hzZ34 := hcZ34.size
        have hap := sets_apart hS1 hs34 (Nat.le_refl _)
        have hS1 := hS1.below hcZ34
        have hx7 := boxed_later hx7 hcZ34
        have hx8 := boxed_later hx8 hcZ34
        have hS2 := hs34.down hbZ33.size
        refine hK34.out _ _ (HSS.out Z34 hbZ34) (fun hHeld => ?_)
        clear hK34 K34
        try simp only [Act.put, List.setIfInBounds_toArray, List.set_cons_zero, List.set_cons_succ]
        have HT := Lib.hid (two_ok hx7 hx8 hS1 hS2 hap hxx hl7 hl8)
        have c7 := hx7.cell
        have f7 := hx7.frozen
        have c8 := (hx8.kept (grownBy_setCell' Z34 X7 (.slice (some ⟨B1, 0, none⟩) np np)) (fun e => hxx (by injection e with e; exact e.symm))).cell
        have f8 := (hx8.kept (grownBy_setCell' Z34 X7 (.slice (some ⟨B1, 0, none⟩) np np)) (fun e => hxx (by injection e with e; exact e.symm))).frozen
        have hbA := hbZ34.setCell (p := ⟨X7, 0, none⟩) hl7 (.slice (some ⟨B1, 0, none⟩) np np)
        have hbB := hbA.setCell (p := ⟨X8, 0, none⟩) hl8 (.slice (some ⟨B2, 0, none⟩) np np)
        refine tkCall 10 (fun Kt hKt => ?_)
        go_simp
        refine hKt.out _ _ ?_ (fun hT => ?_)
        ·(exact HSS.out _ hbA)
        clear hKt Kt hHeld
        have hHeld := hT
        clear hT
        try simp only [Act.put, tkA, tkB, tkC]
        refine tkCall 11 (fun Kt hKt => ?_)
        go_simp
        refine hKt.out _ _ ?_ (fun hT => ?_)
        ·(exact HSS.out _ hbB)
        clear hKt Kt hHeld
        have hHeld := hT
        clear hT
        try simp only [Act.put, tkA, tkB, tkC]
        refine wpAnyH_done (by kernel_rfl) ?_ _
        exact ⟨X7, X8, B1, B2, R1, R2, rfl, HT.out, hbB⟩
       case rm34 => exact AllReadyH.nil
      case rm33 => exact AllReadyH.nil
     case rm32 => exact AllReadyH.nil
   case rm26 => exact AllReadyH.nil
end Go.Proofs.YtdbgaccnejffpaaGreatDoor.Paths
