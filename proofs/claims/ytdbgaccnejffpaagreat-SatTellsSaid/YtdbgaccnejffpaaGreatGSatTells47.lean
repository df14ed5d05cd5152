/-
  The landed At (stage 15). By an AI agent.
  The law's awake (stage 15). By an AI agent.
  slices.Equal of two rows of bools. By an AI agent.
  The law SatTells (stage 15). By an AI agent. (Written by wip/tools/genlaw15.py.)
-/
import Derived.Test.YtdbgaccnejffpaaGreatGSatTells46
import Derived.Test.YtdbgaccnejffpaaGreatGSatTells1
import Derived.Test.YtdbgaccnejffpaaGreatGSatTells16
import Derived.Test.YtdbgaccnejffpaaGreatGSatTells28
import Derived.Test.YtdbgaccnejffpaaGreatGSatTells2
namespace Go.Proofs.YtdbgaccnejffpaaGreat.Sat
open Go.RowKit Go.Proofs.YtdbgaccnejffpaaGreat.Ints Go.Proofs.YtdbgaccnejffpaaGreat.Mem Go.Proofs.YtdbgaccnejffpaaGreat.Src Go.Proofs.YtdbgaccnejffpaaGreat.Paths Go.Proofs.YtdbgaccnejffpaaGreat.Late Go.Proofs.YtdbgaccnejffpaaGreat.Trace
noncomputable def atB (t : Tr) (l : List Tree.Nd) (i : Int) : Bool := mayT t && Tree.formL l && decide (0 ≤ i) && decide (i < (t.events.length : Int)) && tb t l i.toNat
set_option maxHeartbeats 8000000 in
set_option maxRecDepth 100000 in
theorem landAt (NA : Option Addr) (nn nc : Nat) (EA : Option Addr) (ne ec : Nat) (t : Tr) (A : Option Addr) (n c : Nat) (l : List Tree.Nd) (i : Int) (w : World) (hT : TrOk Any w NA nn nc EA ne ec t) (hN : Tree.Nodes Tree.Any w A l) (hl : l.length = n) (hnc : n ≤ c ∧ c ≤ maxLen) (hn : n ≤ 1000) (he : ne ≤ 64) :
  Calls Tryz.prog 10 #[.agg #[.slice NA nn nc, .slice EA ne ec], .int .i64 i, .slice A n c] w fun e w' => e = .returned (.bool (atB t l i)) ∧ Below w.heap.size w w' := by
 obtain ⟨W, hW⟩ : ∃ W, w.alloc (.cells #[.slice NA nn nc, .slice EA ne ec] 25) = W := ⟨_, rfl⟩
 have hbW : Below w.heap.size w W := by rw [← hW]; exact (Below.refl _ _).alloc (Nat.le_refl _) _
 have d0 : W.cell? ⟨w.heap.size, 0, none⟩ = some (.slice NA nn nc) := by rw [← hW]; exact box_cell 0 _ rfl
 have d1 : W.cell? ⟨w.heap.size, 1, none⟩ = some (.slice EA ne ec) := by rw [← hW]; exact box_cell 1 _ rfl
 have HA := Lib.hid (landAll NA nn nc EA ne ec t A n c l W (hT.below hbW) (hN.below hbW) hl hnc hn he)
 have hen : t.events.length = ne := hT.elen
 have HBW := Lib.hid hbW
 have hni : (ne : Int) ≤ 64 := by omega
 clear hT hN hl hnc hbW
 cases hg : (mayT t && Tree.formL l)
 ·rw [hg] at HA
  have HR := Lib.hid (show atB t l i = false from by unfold atB; rw [hg]; rfl)
  clear hg
  go_enter Tryz.func10, Tryz.ntmps10
  go_wp2_with fail
  refine HA.out.mono ?_
  rintro e w1 ⟨hb, he⟩
  rw [if_neg (by decide)] at he
  subst he
  have HB := Lib.hid (HBW.out.trans (hb.mono HBW.out.size))
  clear hb
  by_cases h0 : 0 ≤ i
  ·have h1 : ¬ i < 0 := by omega
   go_wp2_with fail
   go_ret
   exact ⟨by rw [HR.out]; rfl, HB.out⟩
  ·go_wp2_with fail
   go_ret
   exact ⟨by rw [HR.out]; rfl, HB.out⟩
 ·rw [hg] at HA
  have HE := Lib.hid (And.intro hg hen)
  clear hg
  go_enter Tryz.func10, Tryz.ntmps10
  go_wp2_with fail
  refine HA.out.mono ?_
  rintro e w1 ⟨hb, he⟩
  rw [if_pos trivial] at he
  obtain ⟨b, rfl, ho⟩ := he
  have HB := Lib.hid (HBW.out.trans (hb.mono HBW.out.size))
  have HO := Lib.hid ho.rb
  clear hb ho
  by_cases h0 : 0 ≤ i
  ·by_cases h1 : i < (ne : Int)
   ·obtain ⟨p, hp⟩ : ∃ p : Nat, i = (p : Int) := ⟨i.toNat, by omega⟩
    subst hp
    have c0 := HO.out p (by omega)
    go_wp2_with fail
    go_ret
    refine ⟨?_, HB.out⟩
    unfold atB
    rw [HE.out.1, HE.out.2, decide_eq_true h0, decide_eq_true h1, Int.toNat_natCast]
    rfl
   ·go_wp2_with fail
    go_ret
    refine ⟨?_, HB.out⟩
    unfold atB
    rw [HE.out.1, HE.out.2, decide_eq_true h0, decide_eq_false (show ¬ (i < (ne : Int)) from by omega)]
    rfl
  ·go_wp2_with fail
   go_ret
   refine ⟨?_, HB.out⟩
   unfold atB
   rw [HE.out.1, decide_eq_false (show ¬ (0 ≤ i) from by omega)]
   rfl
end Go.Proofs.YtdbgaccnejffpaaGreat.Sat

namespace Go.Proofs.YtdbgaccnejffpaaGreat.Sat
open Go.RowKit Go.Proofs.YtdbgaccnejffpaaGreat.Ints Go.Proofs.YtdbgaccnejffpaaGreat.Mem Go.Proofs.YtdbgaccnejffpaaGreat.Src Go.Proofs.YtdbgaccnejffpaaGreat.Paths Go.Proofs.YtdbgaccnejffpaaGreat.Late Go.Proofs.YtdbgaccnejffpaaGreat.Trace
def trS : Tr := ⟨[[112]], [⟨3, [0]⟩, ⟨4, []⟩]⟩
def lsP : Tree.Nd := ⟨3, { data := #[112] }, 0, 0, []⟩
def lsS : List Tree.Nd := [lsP, ⟨10, { data := #[] }, 1, 1, [0]⟩]
theorem trS_may : mayT trS = true := by decide +kernel
theorem lsS_form : Tree.formL lsS = true := by decide
theorem lsP_form : Tree.formL [lsP] = true := by decide
theorem foP : foOf [lsP] = .z 3 [112] := by rfl
theorem foS : foOf lsS = .o 10 1 1 (.z 3 [112]) := by rfl
theorem semP (p : Nat) : sem (tmOf trS) (.z 3 [112]) p p ↔ p = 0 := by
 have h0 : holdsT trS 0 [112] = true := by decide +kernel
 have h1 : holdsT trS 1 [112] = false := by decide +kernel
 unfold sem
 rw [if_neg (by decide)]
 unfold leafP tmOf
 constructor
 ·rintro ⟨-, h2, h3⟩
  have h2 : p < 2 := h2
  rcases h3 with h3 | ⟨-, h3⟩
  ·exact absurd h3 (by decide)
  ·rcases (show p = 0 ∨ p = 1 by omega) with rfl | rfl
   ·rfl
   ·have h3 : holdsT trS 1 [112] = true := h3
    rw [h1] at h3
    exact absurd h3 (by decide)
 ·rintro rfl
  exact ⟨rfl, (by decide : 0 < 2), .inr ⟨rfl, h0⟩⟩
theorem semS0 : tb trS lsS 0 = false := by
 rw [Bool.eq_false_iff]
 intro h
 rw [tb_iff, foS] at h
 unfold sem at h
 rw [if_neg (by decide)] at h
 obtain ⟨-, -, h⟩ := h
 unfold oneP at h
 rw [if_neg (by decide), if_neg (by decide), if_neg (by decide), if_pos rfl] at h
 obtain ⟨j, hj, h1, -⟩ := h
 obtain rfl : j = 0 := by omega
 exact absurd h1 (by unfold Tm.near; decide)
theorem semS1 : tb trS lsS 1 = true := by
 rw [tb_iff, foS]
 unfold sem
 rw [if_neg (by decide)]
 refine ⟨rfl, (by decide : 1 < 2), ?_⟩
 unfold oneP
 rw [if_neg (by decide), if_neg (by decide), if_neg (by decide), if_pos rfl]
 exact ⟨0, by decide, by unfold Tm.near; decide, (semP 0).2 rfl⟩
theorem semP0 : atB trS [lsP] 0 = true := by
 unfold atB
 rw [trS_may, lsP_form]
 have : tb trS [lsP] (0 : Int).toNat = true := by rw [tb_iff, foP]; exact (semP 0).2 rfl
 rw [this]
 decide
theorem semP1 : atB trS [lsP] 1 = false := by
 unfold atB
 have : tb trS [lsP] (1 : Int).toNat = false := by
  rw [Bool.eq_false_iff, ne_eq, tb_iff, foP]
  intro h
  exact absurd ((semP 1).1 h) (by decide)
 rw [this, Bool.and_false]
abbrev wS1 (w : World) : World := w.alloc (.cells #[.string { data := #[112] }] 9)
abbrev wS2 (w : World) : World := (wS1 w).alloc (.cells #[.int .i64 0] 3)
abbrev wS3 (w : World) : World := (wS2 w).alloc (.cells #[.int .u64 3, .slice (some ⟨w.heap.size + 1, 0, none⟩) 1 1, .int .u64 4, .slice none 0 0] 31)
theorem wS_sizes (w : World) : (wS1 w).heap.size = w.heap.size + 1 ∧ (wS2 w).heap.size = w.heap.size + 1 + 1 ∧ (wS3 w).heap.size = w.heap.size + 1 + 1 + 1 := by simp [wS1, wS2, wS3]
theorem trS_ok (w : World) : TrOk Any (wS3 w) (some ⟨w.heap.size, 0, none⟩) 1 1 (some ⟨w.heap.size + 1 + 1, 0, none⟩) 2 2 trS := by
 obtain ⟨s1, s2, s3⟩ := wS_sizes w
 have b1 : Below (wS1 w).heap.size (wS1 w) (wS2 w) := (Below.refl _ _).alloc (Nat.le_refl _) _
 have b2 : Below (wS2 w).heap.size (wS2 w) (wS3 w) := (Below.refl _ _).alloc (Nat.le_refl _) _
 have b13 : Below (wS1 w).heap.size (wS1 w) (wS3 w) := b1.trans (b2.mono b1.size)
 refine ⟨rfl, rfl, ?_, fun s hs => ?_, ?_, ⟨Nat.le_refl _, by decide⟩, ⟨Nat.le_refl _, by decide⟩⟩
 ·refine Strs.below (w := wS1 w) (fun _ => ⟨w.heap.size, 0, rfl, fun j s hs => ?_⟩) b13
  rw [cell_of_row _ w.heap.size (0 + j) _ 9 (0, 0) (heap_alloc_new w _)]
  match j, hs with
  | 0, hs => simp [trS] at hs; subst hs; rfl
  | j + 1, hs => simp [trS] at hs
 ·simp only [trS, List.mem_cons, List.not_mem_nil, or_false] at hs
  subst hs
  decide
 ·have hK : Rd .i64 (wS3 w) (some ⟨w.heap.size + 1, 0, none⟩) 1 [0] := by
   have := (Rd.lit (k := .i64) (wS1 w) 3 (0, 0) [0] (fun z hz => by simp at hz; subst hz; decide)).below b2
   rw [s1] at this
   exact this
  have hb := heap_alloc_new (wS2 w) (.cells #[.int .u64 3, .slice (some ⟨w.heap.size + 1, 0, none⟩) 1 1, .int .u64 4, .slice none 0 0] 31)
  rw [s2] at hb
  have hc := fun k => cell_of_row (wS3 w) (w.heap.size + 1 + 1) k _ 31 (0, 0) hb
  intro _
  refine ⟨w.heap.size + 1 + 1, 0, rfl, fun j e hj => ?_⟩
  match j, hj with
  | 0, hj =>
   simp only [trS, List.getElem?_cons_zero, Option.some.injEq] at hj
   subst hj
   exact ⟨by rw [hc]; rfl, by decide, _, 1, by rw [hc]; rfl, hK, Nat.le_refl _, by decide, trivial, fun _ _ _ => trivial⟩
  | 1, hj =>
   simp only [trS, List.getElem?_cons_succ, List.getElem?_cons_zero, Option.some.injEq] at hj
   subst hj
   exact ⟨by rw [hc]; rfl, by decide, none, 0, by rw [hc]; rfl, Rd.nil _ _ _, Nat.le_refl _, by decide, trivial, fun _ _ _ => trivial⟩
  | j + 2, hj => simp [trS] at hj
theorem lsS_nodes (w : World) (T1 T2 : TypeId) : Tree.Nodes Tree.Any ((w.alloc (.cells #[.int .i64 0] T1)).alloc (.cells #[.int .i64 3, .string { data := #[112] }, .int .i64 0, .int .i64 0, .slice none 0 0, .int .i64 10, .string { data := #[] }, .int .i64 1, .int .i64 1, .slice (some ⟨w.heap.size, 0, none⟩) 1 1] T2)) (some ⟨w.heap.size + 1, 0, none⟩) lsS := by
 intro _
 refine ⟨_, 0, rfl, fun j n hj => ?_⟩
 have hc : ∀ (o : Nat) (u : Value), (#[.int .i64 3, .string { data := #[112] }, .int .i64 0, .int .i64 0, .slice none 0 0, .int .i64 10, .string { data := #[] }, .int .i64 1, .int .i64 1, .slice (some ⟨w.heap.size, 0, none⟩) 1 1] : Array Value)[o]? = some u →
   ((w.alloc (.cells #[.int .i64 0] T1)).alloc (.cells #[.int .i64 3, .string { data := #[112] }, .int .i64 0, .int .i64 0, .slice none 0 0, .int .i64 10, .string { data := #[] }, .int .i64 1, .int .i64 1, .slice (some ⟨w.heap.size, 0, none⟩) 1 1] T2)).cell? ⟨w.heap.size + 1, o, none⟩ = some u := fun o u hu => by
  rw [cell_of_row _ (w.heap.size + 1) o _ _ (0, 0) (Tree.new_at2 w _ _)]; exact hu
 have hs : ∀ x : Int, (x = 0 ∨ x = 1 ∨ x = 3 ∨ x = 10) → Tree.small64 x := fun x hx => by unfold Tree.small64; omega
 match j, hj with
 | 0, hj =>
  simp only [lsS, List.getElem?_cons_zero, Option.some.injEq] at hj
  subst hj
  exact ⟨hc 0 _ rfl, hc 1 _ rfl, hc 2 _ rfl, hc 3 _ rfl, hs _ (by simp [lsP]), hs _ (by simp [lsP]), hs _ (by simp [lsP]), by decide, none, 0, hc 4 _ rfl, Rd.nil _ _ _, Nat.le_refl _, by decide, trivial, fun _ _ _ => trivial⟩
 | 1, hj =>
  simp only [lsS, List.getElem?_cons_succ, List.getElem?_cons_zero, Option.some.injEq] at hj
  subst hj
  refine ⟨hc 5 _ rfl, hc 6 _ rfl, hc 7 _ rfl, hc 8 _ rfl, hs _ (by simp), hs _ (by simp), hs _ (by simp), by decide, some ⟨w.heap.size, 0, none⟩, 1, hc 9 _ rfl, ?_, Nat.le_refl _, by decide, trivial, fun _ _ _ => trivial⟩
  exact (Rd.lit w T1 (0, 0) [0] (fun z hz => by rw [List.mem_singleton.1 hz]; rfl)).alloc _
 | j + 2, hj => simp [lsS] at hj
abbrev wS4 (w : World) : World := (wS3 w).alloc (.cells #[.slice (some ⟨w.heap.size, 0, none⟩) 1 1, .slice (some ⟨w.heap.size + 1 + 1, 0, none⟩) 2 2] 25)
abbrev wS6 (w : World) : World := ((wS4 w).alloc (.cells #[.int .i64 0] 3)).alloc (.cells #[.int .i64 3, .string { data := #[112] }, .int .i64 0, .int .i64 0, .slice none 0 0, .int .i64 10, .string { data := #[] }, .int .i64 1, .int .i64 1, .slice (some ⟨w.heap.size + 1 + 1 + 1 + 1, 0, none⟩) 1 1] 47)
theorem wS_all (w : World) : TrOk Any (wS6 w) (some ⟨w.heap.size, 0, none⟩) 1 1 (some ⟨w.heap.size + 1 + 1, 0, none⟩) 2 2 trS ∧ Tree.Nodes Tree.Any (wS6 w) (some ⟨w.heap.size + 1 + 1 + 1 + 1 + 1, 0, none⟩) lsS ∧
  (wS6 w).cell? ⟨w.heap.size + 1 + 1 + 1, 0, none⟩ = some (.slice (some ⟨w.heap.size, 0, none⟩) 1 1) ∧ (wS6 w).cell? ⟨w.heap.size + 1 + 1 + 1, 1, none⟩ = some (.slice (some ⟨w.heap.size + 1 + 1, 0, none⟩) 2 2) ∧ Below w.heap.size w (wS6 w) := by
 obtain ⟨s1, s2, s3⟩ := wS_sizes w
 have s4 : (wS4 w).heap.size = w.heap.size + 1 + 1 + 1 + 1 := by simp [wS4, wS3, wS2, wS1]
 have b3 : Below (wS3 w).heap.size (wS3 w) (wS4 w) := (Below.refl _ _).alloc (Nat.le_refl _) _
 have b4 : Below (wS4 w).heap.size (wS4 w) (wS6 w) := ((Below.refl _ _).alloc (Nat.le_refl _) _).alloc (by simp) _
 have b36 := b3.trans (b4.mono b3.size)
 have hn := lsS_nodes (wS4 w) 3 47
 rw [s4] at hn
 have c0 : (wS4 w).cell? ⟨(wS3 w).heap.size, 0, none⟩ = some (.slice (some ⟨w.heap.size, 0, none⟩) 1 1) := box_cell 0 _ rfl
 have c1 : (wS4 w).cell? ⟨(wS3 w).heap.size, 1, none⟩ = some (.slice (some ⟨w.heap.size + 1 + 1, 0, none⟩) 2 2) := box_cell 1 _ rfl
 rw [s3] at c0 c1
 refine ⟨(trS_ok w).below b36, hn, below_cell b4 c0, below_cell b4 c1, ?_⟩
 have b0 : Below w.heap.size w (wS3 w) := (((Below.refl _ w).alloc (Nat.le_refl _) _).alloc (by rw [s1]; omega) _).alloc (by rw [s2]; omega) _
 exact b0.trans (b36.mono b0.size)
theorem nodes_head {w : World} {A : Option Addr} (h : Tree.Nodes Tree.Any w A lsS) : Tree.Nodes Tree.Any w A [lsP] := fun _ => by
 obtain ⟨b, o, e, hns⟩ := h (by decide)
 refine ⟨b, o, e, fun j n hj => ?_⟩
 match j, hj with
 | 0, hj => exact hns 0 n hj
 | j + 1, hj => simp at hj
set_option maxHeartbeats 8000000 in
set_option maxRecDepth 100000 in
theorem awake (w : World) : Calls Tryz.prog 6 #[] w fun e w' => e = .returned (.bool true) ∧ Below w.heap.size w w' := by
 have HW := Lib.hid (wS_all w)
 go_enter Tryz.func6, Tryz.ntmps6
 go_wp2_with fail
 obtain ⟨W, hW⟩ : ∃ W, wS6 w = W := ⟨_, rfl⟩
 rw [hW] at HW
 have hW : (((((w.alloc (.cells #[.string { data := #[112] }] 9)).alloc (.cells #[.int .i64 0] 3)).alloc (.cells #[.int .u64 3, .slice (some ⟨w.heap.size + 1, 0, none⟩) 1 1, .int .u64 4, .slice none 0 0] 31)).alloc (.cells #[.slice (some ⟨w.heap.size, 0, none⟩) 1 1, .slice (some ⟨w.heap.size + 1 + 1, 0, none⟩) 2 2] 25)).alloc (.cells #[.int .i64 0] 3)).alloc (.cells #[.int .i64 3, .string { data := #[112] }, .int .i64 0, .int .i64 0, .slice none 0 0, .int .i64 10, .string { data := #[] }, .int .i64 1, .int .i64 1, .slice (some ⟨w.heap.size + 1 + 1 + 1 + 1, 0, none⟩) 1 1] 47) = W := hW
 rw [hW]
 clear hW
 obtain ⟨g, hg⟩ : ∃ g, w.heap.size + 1 + 1 + 1 = g := ⟨_, rfl⟩
 rw [hg] at HW ⊢
 refine (landAll _ _ _ _ _ _ trS _ _ _ lsS W HW.out.1 HW.out.2.1 rfl (by decide) (by decide) (by decide)).mono ?_
 rintro e w1 ⟨hb, he⟩
 rw [trS_may, lsS_form, if_pos (by decide)] at he
 obtain ⟨b, rfl, ho⟩ := he
 have c0 := ho.rb 0 (by decide)
 have c1 := ho.rb 1 (by decide)
 rw [semS0] at c0
 rw [semS1] at c1
 have t0 := below_cell hb HW.out.2.2.1
 have t1 := below_cell hb HW.out.2.2.2.1
 have HB := Lib.hid hb
 have HT := Lib.hid (HW.out.1.below hb)
 have HN := Lib.hid (nodes_head (HW.out.2.1.below hb))
 clear hb ho
 go_wp2_with fail
 refine wp_region_held_drew (S := fun V => (V.cell? ⟨g, 0, none⟩ = some (.slice (some ⟨w.heap.size, 0, none⟩) 1 1) ∧ V.cell? ⟨g, 1, none⟩ = some (.slice (some ⟨w.heap.size + 1 + 1, 0, none⟩) 2 2)) ∧ V.cell? ⟨b, 0, none⟩ = some (.bool false) ∧ V.cell? ⟨b, 1, none⟩ = some (.bool true)) (by kernel_rfl) ⟨⟨t0, t1⟩, c0, c1⟩ (fun hHeld => ?_)
 refine tkOp 0 hHeld ?_
 refine tkOp 1 hHeld ?_
 refine tkOp 2 hHeld ?_
 refine tkOp 3 hHeld ?_
 refine tkOp 4 hHeld ?_
 refine tkOp 5 hHeld ?_
 refine tkOp 6 hHeld ?_
 refine tkOp 7 hHeld ?_
 refine tkOp 8 hHeld ?_
 refine tkOp 9 hHeld ?_
 refine tkOp 10 hHeld ?_
 refine tkOp 11 hHeld ?_
 refine tkOp 12 hHeld ?_
 refine tkOp 13 hHeld ?_
 refine tkOp 14 hHeld ?_
 refine tkOp 15 hHeld ?_
 refine tkOp 16 hHeld ?_
 refine tkOp 17 hHeld ?_
 refine tkCall 18 (fun Kt hKt => ?_)
 go_simp
 (go_at_call 10; refine (landAt _ _ _ _ _ _ trS _ 1 2 [lsP] 0 _ (HT.out.below (Below.refl _ _).drew) (HN.out.below (Below.refl _ _).drew) rfl (by decide) (by decide) (by decide)).mono ?_; rintro e w2 ⟨rfl, hb2⟩; rw [semP0])
 refine hKt.out _ _ ?_ (fun hT => ?_)
 ·(exact ⟨⟨below_cell hb2 hHeld.1.1, below_cell hb2 hHeld.1.2⟩, below_cell hb2 hHeld.2.1, below_cell hb2 hHeld.2.2⟩)
 clear hKt Kt hHeld
 have hHeld := hT
 clear hT
 try simp only [Act.put, tkA, tkB, tkC]
 refine tkOp 19 hHeld ?_
 refine tkOp 20 hHeld ?_
 refine tkOp 21 hHeld ?_
 refine tkOp 22 hHeld ?_
 refine tkOp 23 hHeld ?_
 refine tkCall 24 (fun Kt hKt => ?_)
 go_simp
 (go_at_call 10; refine (landAt _ _ _ _ _ _ trS _ 1 2 [lsP] 1 _ ((HT.out.below (Below.refl _ _).drew).below hb2) ((HN.out.below (Below.refl _ _).drew).below hb2) rfl (by decide) (by decide) (by decide)).mono ?_; rintro e w3 ⟨rfl, hb3⟩; rw [semP1])
 refine hKt.out _ _ ?_ (fun hT => ?_)
 ·(exact ⟨⟨below_cell hb3 hHeld.1.1, below_cell hb3 hHeld.1.2⟩, below_cell hb3 hHeld.2.1, below_cell hb3 hHeld.2.2⟩)
 clear hKt Kt hHeld
 have hHeld := hT
 clear hT
 try simp only [Act.put, tkA, tkB, tkC]
 refine tkOp 25 hHeld ?_
 refine tkOp 26 hHeld ?_
 refine tkOp 27 hHeld ?_
 refine wpAnyH_done (by kernel_rfl) ?_ _
 have HX := Lib.hid ((undrew1 hb2).trans (hb3.mono (undrew1 hb2).size))
 clear hHeld hb2 hb3
 go_wp2_with fail
 go_ret
 have h1 := HW.out.2.2.2.2
 have h2 := h1.trans (HB.out.mono h1.size)
 exact ⟨rfl, h2.trans (HX.out.mono h2.size)⟩
end Go.Proofs.YtdbgaccnejffpaaGreat.Sat

namespace Go.Proofs.YtdbgaccnejffpaaGreat.Sat
open Go.RowKit Go.Proofs.YtdbgaccnejffpaaGreat.Ints Go.Proofs.YtdbgaccnejffpaaGreat.Mem Go.Proofs.YtdbgaccnejffpaaGreat.Src
set_option maxHeartbeats 4000000 in
set_option maxRecDepth 100000 in
theorem eqBools (b1 o1 c1 b2 o2 c2 n : Nat) (f : Nat → Bool) (w : World) (hn : n ≤ 1000000) (h1 : ∀ j, j < n → w.cell? ⟨b1, o1 + j, none⟩ = some (.bool (f j))) (h2 : ∀ j, j < n → w.cell? ⟨b2, o2 + j, none⟩ = some (.bool (f j))) :
  Calls Tryz.prog 8 #[.slice (some ⟨b1, o1, none⟩) n c1, .slice (some ⟨b2, o2, none⟩) n c2] w fun e w' => e = .returned (.bool true) ∧ Below w.heap.size w w' := by
 have H1 := Lib.hid h1
 have H2 := Lib.hid h2
 have HB0 := Lib.hid (Below.refl w.heap.size w)
 clear h1 h2
 go_enter Tryz.func8, Tryz.ntmps8
 go_wp2_with fail
 go_loopw [5, 13] (fun _ v wr => ∃ i : Nat, v = .int .i64 (i : Nat) ∧ i ≤ n ∧ Below w.heap.size w wr) (fun _ v _ => n - (intOf v).toNat)
 case atStart => exact ⟨0, rfl, Nat.zero_le _, HB0.out⟩
 case round =>
  obtain ⟨i, rfl, hin, hB⟩ := hrel
  have HB := Lib.hid hB
  by_cases hlt : i < n
  ·have x1 := below_cell hB (H1.out i hlt)
   have x2 := below_cell hB (H2.out i hlt)
   clear hB
   go_wp2_with fail
   cases hv : f i <;> rw [hv] at x1 x2
   ·refine wp_region_held_drew (S := fun W => W.cell? ⟨b1, o1 + i, none⟩ = some (.bool false) ∧ W.cell? ⟨b2, o2 + i, none⟩ = some (.bool false)) (by kernel_rfl) ⟨x1, x2⟩ (fun hHeld => ?_)
    refine tkOp 0 hHeld ?_
    refine tkOp 1 hHeld ?_
    refine tkOp 2 hHeld ?_
    refine tkOp 3 hHeld ?_
    refine tkOp 4 hHeld ?_
    refine tkOp 5 hHeld ?_
    refine tkOp 6 hHeld ?_
    refine tkOp 7 hHeld ?_
    refine tkOp 8 hHeld ?_
    refine wpAnyH_done (by kernel_rfl) ?_ _
    clear hHeld
    go_wp2_with fail
    go_roundw
    case rel => exact ⟨i + 1, by simp, by omega, HB.out.drew⟩
    case measure => (show n - (i + 1) < n - i; omega)
   ·refine wp_region_held_drew (S := fun W => W.cell? ⟨b1, o1 + i, none⟩ = some (.bool true) ∧ W.cell? ⟨b2, o2 + i, none⟩ = some (.bool true)) (by kernel_rfl) ⟨x1, x2⟩ (fun hHeld => ?_)
    refine tkOp 0 hHeld ?_
    refine tkOp 1 hHeld ?_
    refine tkOp 2 hHeld ?_
    refine tkOp 3 hHeld ?_
    refine tkOp 4 hHeld ?_
    refine tkOp 5 hHeld ?_
    refine tkOp 6 hHeld ?_
    refine tkOp 7 hHeld ?_
    refine tkOp 8 hHeld ?_
    refine wpAnyH_done (by kernel_rfl) ?_ _
    clear hHeld
    go_wp2_with fail
    go_roundw
    case rel => exact ⟨i + 1, by simp, by omega, HB.out.drew⟩
    case measure => (show n - (i + 1) < n - i; omega)
  ·clear hB
   go_wp2_with fail
   go_ret
   exact ⟨rfl, HB.out⟩
end Go.Proofs.YtdbgaccnejffpaaGreat.Sat

namespace Go.Proofs.YtdbgaccnejffpaaGreat.Sat
open Go.RowKit Go.Proofs.YtdbgaccnejffpaaGreat.Ints Go.Proofs.YtdbgaccnejffpaaGreat.Mem Go.Proofs.YtdbgaccnejffpaaGreat.Src Go.Proofs.YtdbgaccnejffpaaGreat.Paths Go.Proofs.YtdbgaccnejffpaaGreat.Late Go.Proofs.YtdbgaccnejffpaaGreat.Trace
set_option maxHeartbeats 4000000 in
set_option maxRecDepth 100000 in
theorem eqNone (w : World) : Calls Tryz.prog 8 #[.slice none 0 0, .slice none 0 0] w fun e w' => e = .returned (.bool true) ∧ Below w.heap.size w w' := by
 have HB0 := Lib.hid (Below.refl w.heap.size w)
 go_enter Tryz.func8, Tryz.ntmps8
 go_wp2_with fail
 go_loopw [5, 13] (fun _ v wr => v = .int .i64 0 ∧ wr = w) (fun _ v _ => 0)
 case atStart => exact ⟨rfl, rfl⟩
 case round =>
  obtain ⟨rfl, rfl⟩ := hrel
  go_wp2_with fail
  go_ret
  exact ⟨rfl, HB0.out⟩
set_option maxHeartbeats 16000000 in
set_option maxRecDepth 100000 in
theorem lawTellsS (NA : Option Addr) (nn nc : Nat) (EA : Option Addr) (ne ec : Nat) (t : Tr) (A : Option Addr) (nl cl : Nat) (l : List Tree.Nd) (i : Int) (w : World) (h : TrOk Any w NA nn nc EA ne ec t) (hN : Tree.Nodes Tree.Any w A l) (hl : l.length = nl) (hcl : nl ≤ cl ∧ cl ≤ maxLen) (hi : small64 i) :
  Calls Tryz.prog 3 #[.agg #[.slice NA nn nc, .slice EA ne ec], .slice A nl cl, .int .i64 i] w fun e w' => e = .returned (.bool true) ∧ Below w.heap.size w w' := by
 have q63 : maxLen = 9223372036854775807 := rfl
 obtain ⟨W, hW⟩ : ∃ W, w.alloc (.cells #[.slice NA nn nc, .slice EA ne ec] 25) = W := ⟨_, rfl⟩
 have hbW : Below w.heap.size w W := by rw [← hW]; exact (Below.refl _ _).alloc (Nat.le_refl _) _
 have d0 : W.cell? ⟨w.heap.size, 0, none⟩ = some (.slice NA nn nc) := by rw [← hW]; exact box_cell 0 _ rfl
 have d1 : W.cell? ⟨w.heap.size, 1, none⟩ = some (.slice EA ne ec) := by rw [← hW]; exact box_cell 1 _ rfl
 have HB := Lib.hid hbW
 have HT := Lib.hid (h.below hbW)
 have HN := Lib.hid (hN.below hbW)
 have HL := Lib.hid (And.intro hl hcl)
 have HI := Lib.hid hi
 have HE := Lib.hid h.elen
 have HAW := Lib.hid (fun V => awake V)
 have hnm : ((ne : Nat) : Int) ≤ 9223372036854775807 := by have := h.ecap; omega
 have hnm2 : ((nn : Nat) : Int) ≤ 9223372036854775807 := by have := h.ncap; omega
 have hnm3 : ((nl : Nat) : Int) ≤ 9223372036854775807 := by omega
 clear h hN hl hcl hbW hi
 by_cases hA : ne ≤ 30 ∧ nn ≤ 200 ∧ nl ≤ 200
 ·obtain ⟨a1, a2, a3⟩ := hA
  have b1 : ¬ ((ne : Nat) : Int) > 30 := by omega
  have b2 : ¬ ((nn : Nat) : Int) > 200 := by omega
  have b3 : ¬ ((nl : Nat) : Int) > 200 := by omega
  go_enter Tryz.func3, Tryz.ntmps3
  go_wp2_with fail
  have HW0 := Lib.hid (Below.refl W.heap.size W)
  have HD := Lib.hid (And.intro d0 d1)
  clear d0 d1
  go_loopw [8, 29] (fun _ v wr => ∃ k : Nat, v = .int .i64 ((k : Nat) : Int) ∧ k ≤ ne ∧ Below W.heap.size W wr) (fun _ v _ => ne - (intOf v).toNat)
  case atStart => exact ⟨0, rfl, Nat.zero_le _, HW0.out⟩
  case round =>
   obtain ⟨k, rfl, hkn, hB⟩ := hrel
   have HBk := Lib.hid hB
   by_cases hlt : k < ne
   ·obtain ⟨b, off, hc⟩ : ∃ (b off : Nat), EA = some ⟨b, off, none⟩ ∧ ∃ (K : Option Addr) (tm : Int) (q c : Nat), wr.cell? ⟨b, off + k * 2, none⟩ = some (.int .u64 tm) ∧ wr.cell? ⟨b, off + k * 2 + 1, none⟩ = some (.slice K q c) ∧ q ≤ maxLen := by
     have ht := HT.out.below hB
     obtain ⟨b, off, e, hc⟩ := ht.evs (by rw [HE.out]; omega)
     obtain ⟨x, hx⟩ : ∃ x, t.events[k]? = some x := ⟨_, List.getElem?_eq_getElem (by rw [HE.out]; exact hlt)⟩
     obtain ⟨h1, -, K, c, h3, -, h5, h6, -⟩ := hc k x hx
     rw [Nat.mul_comm 2 k] at h1 h3
     exact ⟨b, off, e, K, _, _, c, h1, h3, Nat.le_trans h5 h6⟩
    obtain ⟨rfl, K, tm, q, c, c0, c1, hq⟩ := hc
    have hki : ((k : Nat) : Int) < ((ne : Nat) : Int) := by omega
    have hqm : ((q : Nat) : Int) ≤ 9223372036854775807 := by omega
    clear hB
    by_cases hq2 : q ≤ 200
    ·have b4 : ¬ ((q : Nat) : Int) > 200 := by omega
     have HN2 := Lib.hid (HBk.out.alloc HBk.out.size (.cells #[.int .u64 tm, .slice K q c] 31))
     go_wp2_with fail
     go_roundw
     case rel => exact ⟨k + 1, by simp, by omega, HN2.out⟩
     case measure => (show ne - (k + 1) < ne - k; omega)
    ·have b4 : ((q : Nat) : Int) > 200 := by omega
     have HN2 := Lib.hid (HBk.out.alloc HBk.out.size (.cells #[.int .u64 tm, .slice K q c] 31))
     go_wp2_with fail
     refine (HAW.out _).mono ?_
     rintro e w3 ⟨rfl, hb3⟩
     have HX := Lib.hid (HB.out.trans ((HN2.out.trans (hb3.mono HN2.out.size)).mono HB.out.size))
     clear hb3
     go_wp2_with fail
     go_ret
     exact ⟨rfl, HX.out⟩
   ·obtain rfl : k = ne := by omega
    have y0 := below_cell hB HD.out.1
    have y1 := below_cell hB HD.out.2
    have HR := Lib.hid (refAll NA nn nc EA k ec t A nl cl l wr (HT.out.below hB) (HN.out.below hB) HL.out.1 HL.out.2 (by omega) (by omega))
    have HA := Lib.hid (fun V (hb : Below wr.heap.size wr V) => landAll NA nn nc EA k ec t A nl cl l V ((HT.out.below hB).below hb) ((HN.out.below hB).below hb) HL.out.1 HL.out.2 (by omega) (by omega))
    have HAT := Lib.hid (fun V (hb : Below wr.heap.size wr V) => landAt NA nn nc EA k ec t A nl cl l i V ((HT.out.below hB).below hb) ((HN.out.below hB).below hb) HL.out.1 HL.out.2 (by omega) (by omega))
    clear hB
    go_wp2_with fail
    refine HR.out.mono ?_
    rintro e w4 ⟨hb4, he⟩
    have z0 := below_cell hb4 y0
    have z1 := below_cell hb4 y1
    have HB4 := Lib.hid hb4
    clear hb4 y0 y1
    cases hg : (mayT t && Tree.formL l)
    ·rw [hg] at he HA
     rw [if_neg (by decide)] at he
     subst he
     have HAT2 := Lib.hid (show atB t l i = false from by unfold atB; rw [hg]; rfl)
     clear hg
     go_wp2_with fail
     refine (HA.out _ HB4.out).mono ?_
     rintro e w5 ⟨hb5, he⟩
     rw [if_neg (by decide)] at he
     subst he
     have z2 := below_cell hb5 z0
     have z3 := below_cell hb5 z1
     have HB5 := Lib.hid (HB4.out.trans (hb5.mono HB4.out.size))
     clear hb5 z0 z1
     go_wp2_with fail
     refine (eqNone _).mono ?_
     rintro e w6 ⟨rfl, hb6⟩
     have u0 := below_cell hb6 z2
     have u1 := below_cell hb6 z3
     have HB6 := Lib.hid (HB5.out.trans (hb6.mono HB5.out.size))
     clear hb6 z2 z3
     have h9 : 0 ≤ i → ¬ (i < 0) := fun h => by omega
     by_cases h0 : 0 ≤ i
     all_goals
      go_wp2_with fail
      refine (HAT.out _ HB6.out).mono ?_
      rintro e w7 ⟨rfl, hb7⟩
      have HB7 := Lib.hid (HB6.out.trans (hb7.mono HB6.out.size))
      rw [HAT2.out]
      clear hb7
      go_wp2_with fail
      refine (HAW.out _).mono ?_
      rintro e w8 ⟨rfl, hb8⟩
      have HB8 := Lib.hid (HB7.out.trans (hb8.mono HB7.out.size))
      clear hb8
      go_wp2_with fail
      go_ret
      have h1 := HBk.out.trans (HB8.out.mono HBk.out.size)
      exact ⟨rfl, HB.out.trans (h1.mono HB.out.size)⟩
    ·rw [hg] at he HA
     rw [if_pos rfl] at he
     obtain ⟨b0, rfl, ho0⟩ := he
     have HG := Lib.hid hg
     have HO0 := Lib.hid ho0.rb
     clear hg ho0
     go_wp2_with fail
     refine (HA.out _ HB4.out).mono ?_
     rintro e w5 ⟨hb5, he⟩
     rw [if_pos trivial] at he
     obtain ⟨b1, rfl, ho1⟩ := he
     have z2 := below_cell hb5 z0
     have z3 := below_cell hb5 z1
     have HB5 := Lib.hid (HB4.out.trans (hb5.mono HB4.out.size))
     have HO5 := Lib.hid (HO0.out.below hb5)
     have HO1 := Lib.hid ho1.rb
     clear hb5 z0 z1 ho1
     go_wp2_with fail
     refine (eqBools b1 0 k b0 0 k k (tb t l) _ (by omega) (fun j hj => by rw [Nat.zero_add]; exact HO1.out j hj) (fun j hj => by rw [Nat.zero_add]; exact HO5.out j hj)).mono ?_
     rintro e w6 ⟨rfl, hb6⟩
     have u0 := below_cell hb6 z2
     have u1 := below_cell hb6 z3
     have HB6 := Lib.hid (HB5.out.trans (hb6.mono HB5.out.size))
     have HO6 := Lib.hid (HO5.out.below hb6)
     clear hb6 z2 z3
     by_cases h0 : 0 ≤ i
     ·by_cases h1 : i < (k : Int)
      ·obtain ⟨p, hp⟩ : ∃ p : Nat, i = (p : Int) := ⟨i.toNat, by omega⟩
       subst hp
       have HAT2 := Lib.hid (show atB t l ((p : Nat) : Int) = tb t l p from by unfold atB; rw [HG.out, HE.out, decide_eq_true h0, decide_eq_true h1, Int.toNat_natCast]; rfl)
       obtain ⟨x, hx⟩ : ∃ x, tb t l p = x := ⟨_, rfl⟩
       have HX := Lib.hid hx
       go_wp2_with fail
       refine (HAT.out _ HB6.out).mono ?_
       rintro e w7 ⟨rfl, hb7⟩
       have HB7 := Lib.hid (HB6.out.trans (hb7.mono HB6.out.size))
       rw [HAT2.out, HX.out]
       have v0 := (HO6.out.below hb7) p (by omega)
       rw [hx] at v0
       clear hb7 hx
       cases x
       all_goals
        go_wp2_with fail
        refine (HAW.out _).mono ?_
        rintro e w8 ⟨rfl, hb8⟩
        have HB8 := Lib.hid (HB7.out.trans (hb8.mono HB7.out.size))
        clear hb8
        go_wp2_with fail
        go_ret
        have h1 := HBk.out.trans (HB8.out.mono HBk.out.size)
        exact ⟨rfl, HB.out.trans (h1.mono HB.out.size)⟩
      ·have HAT2 := Lib.hid (show atB t l i = false from by unfold atB; rw [HE.out, decide_eq_false h1, Bool.and_false, Bool.false_and])
       go_wp2_with fail
       refine (HAT.out _ HB6.out).mono ?_
       rintro e w7 ⟨rfl, hb7⟩
       have HB7 := Lib.hid (HB6.out.trans (hb7.mono HB6.out.size))
       rw [HAT2.out]
       clear hb7
       go_wp2_with fail
       refine (HAW.out _).mono ?_
       rintro e w8 ⟨rfl, hb8⟩
       have HB8 := Lib.hid (HB7.out.trans (hb8.mono HB7.out.size))
       clear hb8
       go_wp2_with fail
       go_ret
       have h1 := HBk.out.trans (HB8.out.mono HBk.out.size)
       exact ⟨rfl, HB.out.trans (h1.mono HB.out.size)⟩
     ·have HAT2 := Lib.hid (show atB t l i = false from by unfold atB; rw [decide_eq_false h0, Bool.and_false, Bool.false_and, Bool.false_and])
      go_wp2_with fail
      refine (HAT.out _ HB6.out).mono ?_
      rintro e w7 ⟨rfl, hb7⟩
      have HB7 := Lib.hid (HB6.out.trans (hb7.mono HB6.out.size))
      rw [HAT2.out]
      clear hb7
      go_wp2_with fail
      refine (HAW.out _).mono ?_
      rintro e w8 ⟨rfl, hb8⟩
      have HB8 := Lib.hid (HB7.out.trans (hb8.mono HB7.out.size))
      clear hb8
      go_wp2_with fail
      go_ret
      have h1 := HBk.out.trans (HB8.out.mono HBk.out.size)
      exact ⟨rfl, HB.out.trans (h1.mono HB.out.size)⟩
 ·have hA2 : 30 < ne ∨ 200 < nn ∨ 200 < nl := by omega
  clear hA
  by_cases a1 : 30 < ne
  ·have b1 : ((ne : Nat) : Int) > 30 := by omega
   go_enter Tryz.func3, Tryz.ntmps3
   go_wp2_with fail
   refine (HAW.out _).mono ?_
   rintro e w3 ⟨rfl, hb3⟩
   have HX := Lib.hid (HB.out.trans (hb3.mono HB.out.size))
   clear hb3
   go_wp2_with fail
   go_ret
   exact ⟨rfl, HX.out⟩
  ·have b1 : ¬ ((ne : Nat) : Int) > 30 := by omega
   by_cases a2 : 200 < nn
   ·have b2 : ((nn : Nat) : Int) > 200 := by omega
    go_enter Tryz.func3, Tryz.ntmps3
    go_wp2_with fail
    refine (HAW.out _).mono ?_
    rintro e w3 ⟨rfl, hb3⟩
    have HX := Lib.hid (HB.out.trans (hb3.mono HB.out.size))
    clear hb3
    go_wp2_with fail
    go_ret
    exact ⟨rfl, HX.out⟩
   ·have b2 : ¬ ((nn : Nat) : Int) > 200 := by omega
    have b3 : ((nl : Nat) : Int) > 200 := by omega
    go_enter Tryz.func3, Tryz.ntmps3
    go_wp2_with fail
    refine (HAW.out _).mono ?_
    rintro e w3 ⟨rfl, hb3⟩
    have HX := Lib.hid (HB.out.trans (hb3.mono HB.out.size))
    clear hb3
    go_wp2_with fail
    go_ret
    exact ⟨rfl, HX.out⟩
end Go.Proofs.YtdbgaccnejffpaaGreat.Sat
