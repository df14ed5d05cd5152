/-
  The law's awake (stage 15). By an AI agent.
  The law's Past (stage 15). By an AI agent.
  The walk of the law's ids (stage 8). By an AI agent.
-/
import Derived.Test.YtdbgaccnejffpaaGSatShift1
import Derived.Test.YtdbgaccnejffpaaGSatShift34
import Derived.Test.YtdbgaccnejffpaaGSatShift11
import Derived.Test.YtdbgaccnejffpaaGSatShift4
import Derived.Test.YtdbgaccnejffpaaGSatShift5
import Derived.Test.YtdbgaccnejffpaaGSatShift15
namespace Go.Proofs.Ytdbgaccnejffpaa.Sat
open Go.RowKit Go.Proofs.Ytdbgaccnejffpaa.Ints Go.Proofs.Ytdbgaccnejffpaa.Mem Go.Proofs.Ytdbgaccnejffpaa.Src Go.Proofs.Ytdbgaccnejffpaa.Paths Go.Proofs.Ytdbgaccnejffpaa.Late Go.Proofs.Ytdbgaccnejffpaa.Trace
def trS : Tr := ⟨[[112]], [⟨3, [0]⟩, ⟨4, []⟩]⟩
def lsP : Tree.Nd := ⟨3, { data := #[112] }, 0, 0, []⟩
def lsS : List Tree.Nd := [lsP, ⟨10, { data := #[] }, 1, 1, [0]⟩]
theorem trS_may : mayT trS = true := by decide +kernel
theorem lsS_form : Tree.formL lsS = true := by decide
theorem lsP_form : Tree.formL [lsP] = true := by decide
theorem foP : foOf [lsP] = .z 3 [112] := by rfl
theorem foS : foOf lsS = .o 10 1 1 (.z 3 [112]) := by rfl
theorem semP (p : Nat) : sem (tmOf trS) (.z 3 [112]) p p ↔ p = 0 := by
 have h0 : holdsT trS 0 [112] = true := by decide +kernel
 have h1 : holdsT trS 1 [112] = false := by decide +kernel
 unfold sem
 rw [if_neg (by decide)]
 unfold leafP tmOf
 constructor
 ·rintro ⟨-, h2, h3⟩
  have h2 : p < 2 := h2
  rcases h3 with h3 | ⟨-, h3⟩
  ·exact absurd h3 (by decide)
  ·rcases (show p = 0 ∨ p = 1 by omega) with rfl | rfl
   ·rfl
   ·have h3 : holdsT trS 1 [112] = true := h3
    rw [h1] at h3
    exact absurd h3 (by decide)
 ·rintro rfl
  exact ⟨rfl, (by decide : 0 < 2), .inr ⟨rfl, h0⟩⟩
theorem semS0 : tb trS lsS 0 = false := by
 rw [Bool.eq_false_iff]
 intro h
 rw [tb_iff, foS] at h
 unfold sem at h
 rw [if_neg (by decide)] at h
 obtain ⟨-, -, h⟩ := h
 unfold oneP at h
 rw [if_neg (by decide), if_neg (by decide), if_neg (by decide), if_pos rfl] at h
 obtain ⟨j, hj, h1, -⟩ := h
 obtain rfl : j = 0 := by omega
 exact absurd h1 (by unfold Tm.near; decide)
theorem semS1 : tb trS lsS 1 = true := by
 rw [tb_iff, foS]
 unfold sem
 rw [if_neg (by decide)]
 refine ⟨rfl, (by decide : 1 < 2), ?_⟩
 unfold oneP
 rw [if_neg (by decide), if_neg (by decide), if_neg (by decide), if_pos rfl]
 exact ⟨0, by decide, by unfold Tm.near; decide, (semP 0).2 rfl⟩
theorem semP0 : atB trS [lsP] 0 = true := by
 unfold atB
 rw [trS_may, lsP_form]
 have : tb trS [lsP] (0 : Int).toNat = true := by rw [tb_iff, foP]; exact (semP 0).2 rfl
 rw [this]
 decide
theorem semP1 : atB trS [lsP] 1 = false := by
 unfold atB
 have : tb trS [lsP] (1 : Int).toNat = false := by
  rw [Bool.eq_false_iff, ne_eq, tb_iff, foP]
  intro h
  exact absurd ((semP 1).1 h) (by decide)
 rw [this, Bool.and_false]
abbrev wS1 (w : World) : World := w.alloc (.cells #[.string { data := #[112] }] 9)
abbrev wS2 (w : World) : World := (wS1 w).alloc (.cells #[.int .i64 0] 3)
abbrev wS3 (w : World) : World := (wS2 w).alloc (.cells #[.int .u64 3, .slice (some ⟨w.heap.size + 1, 0, none⟩) 1 1, .int .u64 4, .slice none 0 0] 34)
theorem wS_sizes (w : World) : (wS1 w).heap.size = w.heap.size + 1 ∧ (wS2 w).heap.size = w.heap.size + 1 + 1 ∧ (wS3 w).heap.size = w.heap.size + 1 + 1 + 1 := by simp [wS1, wS2, wS3]
theorem trS_ok (w : World) : TrOk Any (wS3 w) (some ⟨w.heap.size, 0, none⟩) 1 1 (some ⟨w.heap.size + 1 + 1, 0, none⟩) 2 2 trS := by
 obtain ⟨s1, s2, s3⟩ := wS_sizes w
 have b1 : Below (wS1 w).heap.size (wS1 w) (wS2 w) := (Below.refl _ _).alloc (Nat.le_refl _) _
 have b2 : Below (wS2 w).heap.size (wS2 w) (wS3 w) := (Below.refl _ _).alloc (Nat.le_refl _) _
 have b13 : Below (wS1 w).heap.size (wS1 w) (wS3 w) := b1.trans (b2.mono b1.size)
 refine ⟨rfl, rfl, ?_, fun s hs => ?_, ?_, ⟨Nat.le_refl _, by decide⟩, ⟨Nat.le_refl _, by decide⟩⟩
 ·refine Strs.below (w := wS1 w) (fun _ => ⟨w.heap.size, 0, rfl, fun j s hs => ?_⟩) b13
  rw [cell_of_row _ w.heap.size (0 + j) _ 9 (0, 0) (heap_alloc_new w _)]
  match j, hs with
  | 0, hs => simp [trS] at hs; subst hs; rfl
  | j + 1, hs => simp [trS] at hs
 ·simp only [trS, List.mem_cons, List.not_mem_nil, or_false] at hs
  subst hs
  decide
 ·have hK : Rd .i64 (wS3 w) (some ⟨w.heap.size + 1, 0, none⟩) 1 [0] := by
   have := (Rd.lit (k := .i64) (wS1 w) 3 (0, 0) [0] (fun z hz => by simp at hz; subst hz; decide)).below b2
   rw [s1] at this
   exact this
  have hb := heap_alloc_new (wS2 w) (.cells #[.int .u64 3, .slice (some ⟨w.heap.size + 1, 0, none⟩) 1 1, .int .u64 4, .slice none 0 0] 34)
  rw [s2] at hb
  have hc := fun k => cell_of_row (wS3 w) (w.heap.size + 1 + 1) k _ 34 (0, 0) hb
  intro _
  refine ⟨w.heap.size + 1 + 1, 0, rfl, fun j e hj => ?_⟩
  match j, hj with
  | 0, hj =>
   simp only [trS, List.getElem?_cons_zero, Option.some.injEq] at hj
   subst hj
   exact ⟨by rw [hc]; rfl, by decide, _, 1, by rw [hc]; rfl, hK, Nat.le_refl _, by decide, trivial, fun _ _ _ => trivial⟩
  | 1, hj =>
   simp only [trS, List.getElem?_cons_succ, List.getElem?_cons_zero, Option.some.injEq] at hj
   subst hj
   exact ⟨by rw [hc]; rfl, by decide, none, 0, by rw [hc]; rfl, Rd.nil _ _ _, Nat.le_refl _, by decide, trivial, fun _ _ _ => trivial⟩
  | j + 2, hj => simp [trS] at hj
theorem lsS_nodes (w : World) (T1 T2 : TypeId) : Tree.Nodes Tree.Any ((w.alloc (.cells #[.int .i64 0] T1)).alloc (.cells #[.int .i64 3, .string { data := #[112] }, .int .i64 0, .int .i64 0, .slice none 0 0, .int .i64 10, .string { data := #[] }, .int .i64 1, .int .i64 1, .slice (some ⟨w.heap.size, 0, none⟩) 1 1] T2)) (some ⟨w.heap.size + 1, 0, none⟩) lsS := by
 intro _
 refine ⟨_, 0, rfl, fun j n hj => ?_⟩
 have hc : ∀ (o : Nat) (u : Value), (#[.int .i64 3, .string { data := #[112] }, .int .i64 0, .int .i64 0, .slice none 0 0, .int .i64 10, .string { data := #[] }, .int .i64 1, .int .i64 1, .slice (some ⟨w.heap.size, 0, none⟩) 1 1] : Array Value)[o]? = some u →
   ((w.alloc (.cells #[.int .i64 0] T1)).alloc (.cells #[.int .i64 3, .string { data := #[112] }, .int .i64 0, .int .i64 0, .slice none 0 0, .int .i64 10, .string { data := #[] }, .int .i64 1, .int .i64 1, .slice (some ⟨w.heap.size, 0, none⟩) 1 1] T2)).cell? ⟨w.heap.size + 1, o, none⟩ = some u := fun o u hu => by
  rw [cell_of_row _ (w.heap.size + 1) o _ _ (0, 0) (Tree.new_at2 w _ _)]; exact hu
 have hs : ∀ x : Int, (x = 0 ∨ x = 1 ∨ x = 3 ∨ x = 10) → Tree.small64 x := fun x hx => by unfold Tree.small64; omega
 match j, hj with
 | 0, hj =>
  simp only [lsS, List.getElem?_cons_zero, Option.some.injEq] at hj
  subst hj
  exact ⟨hc 0 _ rfl, hc 1 _ rfl, hc 2 _ rfl, hc 3 _ rfl, hs _ (by simp [lsP]), hs _ (by simp [lsP]), hs _ (by simp [lsP]), by decide, none, 0, hc 4 _ rfl, Rd.nil _ _ _, Nat.le_refl _, by decide, trivial, fun _ _ _ => trivial⟩
 | 1, hj =>
  simp only [lsS, List.getElem?_cons_succ, List.getElem?_cons_zero, Option.some.injEq] at hj
  subst hj
  refine ⟨hc 5 _ rfl, hc 6 _ rfl, hc 7 _ rfl, hc 8 _ rfl, hs _ (by simp), hs _ (by simp), hs _ (by simp), by decide, some ⟨w.heap.size, 0, none⟩, 1, hc 9 _ rfl, ?_, Nat.le_refl _, by decide, trivial, fun _ _ _ => trivial⟩
  exact (Rd.lit w T1 (0, 0) [0] (fun z hz => by rw [List.mem_singleton.1 hz]; rfl)).alloc _
 | j + 2, hj => simp [lsS] at hj
abbrev wS4 (w : World) : World := (wS3 w).alloc (.cells #[.slice (some ⟨w.heap.size, 0, none⟩) 1 1, .slice (some ⟨w.heap.size + 1 + 1, 0, none⟩) 2 2] 27)
abbrev wS6 (w : World) : World := ((wS4 w).alloc (.cells #[.int .i64 0] 3)).alloc (.cells #[.int .i64 3, .string { data := #[112] }, .int .i64 0, .int .i64 0, .slice none 0 0, .int .i64 10, .string { data := #[] }, .int .i64 1, .int .i64 1, .slice (some ⟨w.heap.size + 1 + 1 + 1 + 1, 0, none⟩) 1 1] 52)
theorem wS_all (w : World) : TrOk Any (wS6 w) (some ⟨w.heap.size, 0, none⟩) 1 1 (some ⟨w.heap.size + 1 + 1, 0, none⟩) 2 2 trS ∧ Tree.Nodes Tree.Any (wS6 w) (some ⟨w.heap.size + 1 + 1 + 1 + 1 + 1, 0, none⟩) lsS ∧
  (wS6 w).cell? ⟨w.heap.size + 1 + 1 + 1, 0, none⟩ = some (.slice (some ⟨w.heap.size, 0, none⟩) 1 1) ∧ (wS6 w).cell? ⟨w.heap.size + 1 + 1 + 1, 1, none⟩ = some (.slice (some ⟨w.heap.size + 1 + 1, 0, none⟩) 2 2) ∧ Below w.heap.size w (wS6 w) := by
 obtain ⟨s1, s2, s3⟩ := wS_sizes w
 have s4 : (wS4 w).heap.size = w.heap.size + 1 + 1 + 1 + 1 := by simp [wS4, wS3, wS2, wS1]
 have b3 : Below (wS3 w).heap.size (wS3 w) (wS4 w) := (Below.refl _ _).alloc (Nat.le_refl _) _
 have b4 : Below (wS4 w).heap.size (wS4 w) (wS6 w) := ((Below.refl _ _).alloc (Nat.le_refl _) _).alloc (by simp) _
 have b36 := b3.trans (b4.mono b3.size)
 have hn := lsS_nodes (wS4 w) 3 52
 rw [s4] at hn
 have c0 : (wS4 w).cell? ⟨(wS3 w).heap.size, 0, none⟩ = some (.slice (some ⟨w.heap.size, 0, none⟩) 1 1) := box_cell 0 _ rfl
 have c1 : (wS4 w).cell? ⟨(wS3 w).heap.size, 1, none⟩ = some (.slice (some ⟨w.heap.size + 1 + 1, 0, none⟩) 2 2) := box_cell 1 _ rfl
 rw [s3] at c0 c1
 refine ⟨(trS_ok w).below b36, hn, below_cell b4 c0, below_cell b4 c1, ?_⟩
 have b0 : Below w.heap.size w (wS3 w) := (((Below.refl _ w).alloc (Nat.le_refl _) _).alloc (by rw [s1]; omega) _).alloc (by rw [s2]; omega) _
 exact b0.trans (b36.mono b0.size)
theorem nodes_head {w : World} {A : Option Addr} (h : Tree.Nodes Tree.Any w A lsS) : Tree.Nodes Tree.Any w A [lsP] := fun _ => by
 obtain ⟨b, o, e, hns⟩ := h (by decide)
 refine ⟨b, o, e, fun j n hj => ?_⟩
 match j, hj with
 | 0, hj => exact hns 0 n hj
 | j + 1, hj => simp at hj
set_option maxHeartbeats 8000000 in
set_option maxRecDepth 100000 in
theorem awake (w : World) : Calls Try.prog 10 #[] w fun e w' => e = .returned (.bool true) ∧ Below w.heap.size w w' := by
 have HW := Lib.hid (wS_all w)
 go_enter Try.func10, Try.ntmps10
 go_wp2_with fail
 obtain ⟨W, hW⟩ : ∃ W, wS6 w = W := ⟨_, rfl⟩
 rw [hW] at HW
 have hW : (((((w.alloc (.cells #[.string { data := #[112] }] 9)).alloc (.cells #[.int .i64 0] 3)).alloc (.cells #[.int .u64 3, .slice (some ⟨w.heap.size + 1, 0, none⟩) 1 1, .int .u64 4, .slice none 0 0] 34)).alloc (.cells #[.slice (some ⟨w.heap.size, 0, none⟩) 1 1, .slice (some ⟨w.heap.size + 1 + 1, 0, none⟩) 2 2] 27)).alloc (.cells #[.int .i64 0] 3)).alloc (.cells #[.int .i64 3, .string { data := #[112] }, .int .i64 0, .int .i64 0, .slice none 0 0, .int .i64 10, .string { data := #[] }, .int .i64 1, .int .i64 1, .slice (some ⟨w.heap.size + 1 + 1 + 1 + 1, 0, none⟩) 1 1] 52) = W := hW
 rw [hW]
 clear hW
 obtain ⟨g, hg⟩ : ∃ g, w.heap.size + 1 + 1 + 1 = g := ⟨_, rfl⟩
 rw [hg] at HW ⊢
 refine (landAll _ _ _ _ _ _ trS _ _ _ lsS W HW.out.1 HW.out.2.1 rfl (by decide) (by decide) (by decide)).mono ?_
 rintro e w1 ⟨hb, he⟩
 rw [trS_may, lsS_form, if_pos (by decide)] at he
 obtain ⟨b, rfl, ho⟩ := he
 have c0 := ho.rb 0 (by decide)
 have c1 := ho.rb 1 (by decide)
 rw [semS0] at c0
 rw [semS1] at c1
 have t0 := below_cell hb HW.out.2.2.1
 have t1 := below_cell hb HW.out.2.2.2.1
 have HB := Lib.hid hb
 have HT := Lib.hid (HW.out.1.below hb)
 have HN := Lib.hid (nodes_head (HW.out.2.1.below hb))
 clear hb ho
 go_wp2_with fail
 refine wp_region_held_drew (S := fun V => (V.cell? ⟨g, 0, none⟩ = some (.slice (some ⟨w.heap.size, 0, none⟩) 1 1) ∧ V.cell? ⟨g, 1, none⟩ = some (.slice (some ⟨w.heap.size + 1 + 1, 0, none⟩) 2 2)) ∧ V.cell? ⟨b, 0, none⟩ = some (.bool false) ∧ V.cell? ⟨b, 1, none⟩ = some (.bool true)) (by kernel_rfl) ⟨⟨t0, t1⟩, c0, c1⟩ (fun hHeld => ?_)
 refine tkOp 0 hHeld ?_
 refine tkOp 1 hHeld ?_
 refine tkOp 2 hHeld ?_
 refine tkOp 3 hHeld ?_
 refine tkOp 4 hHeld ?_
 refine tkOp 5 hHeld ?_
 refine tkOp 6 hHeld ?_
 refine tkOp 7 hHeld ?_
 refine tkOp 8 hHeld ?_
 refine tkOp 9 hHeld ?_
 refine tkOp 10 hHeld ?_
 refine tkOp 11 hHeld ?_
 refine tkOp 12 hHeld ?_
 refine tkOp 13 hHeld ?_
 refine tkOp 14 hHeld ?_
 refine tkOp 15 hHeld ?_
 refine tkOp 16 hHeld ?_
 refine tkOp 17 hHeld ?_
 refine tkCall 18 (fun Kt hKt => ?_)
 go_simp
 (go_at_call 19; refine (landAt _ _ _ _ _ _ trS _ 1 2 [lsP] 0 _ (HT.out.below (Below.refl _ _).drew) (HN.out.below (Below.refl _ _).drew) rfl (by decide) (by decide) (by decide)).mono ?_; rintro e w2 ⟨rfl, hb2⟩; rw [semP0])
 refine hKt.out _ _ ?_ (fun hT => ?_)
 ·(exact ⟨⟨below_cell hb2 hHeld.1.1, below_cell hb2 hHeld.1.2⟩, below_cell hb2 hHeld.2.1, below_cell hb2 hHeld.2.2⟩)
 clear hKt Kt hHeld
 have hHeld := hT
 clear hT
 try simp only [Act.put, tkA, tkB, tkC]
 refine tkOp 19 hHeld ?_
 refine tkOp 20 hHeld ?_
 refine tkOp 21 hHeld ?_
 refine tkOp 22 hHeld ?_
 refine tkOp 23 hHeld ?_
 refine tkCall 24 (fun Kt hKt => ?_)
 go_simp
 (go_at_call 19; refine (landAt _ _ _ _ _ _ trS _ 1 2 [lsP] 1 _ ((HT.out.below (Below.refl _ _).drew).below hb2) ((HN.out.below (Below.refl _ _).drew).below hb2) rfl (by decide) (by decide) (by decide)).mono ?_; rintro e w3 ⟨rfl, hb3⟩; rw [semP1])
 refine hKt.out _ _ ?_ (fun hT => ?_)
 ·(exact ⟨⟨below_cell hb3 hHeld.1.1, below_cell hb3 hHeld.1.2⟩, below_cell hb3 hHeld.2.1, below_cell hb3 hHeld.2.2⟩)
 clear hKt Kt hHeld
 have hHeld := hT
 clear hT
 try simp only [Act.put, tkA, tkB, tkC]
 refine tkOp 25 hHeld ?_
 refine tkOp 26 hHeld ?_
 refine tkOp 27 hHeld ?_
 refine wpAnyH_done (by kernel_rfl) ?_ _
 have HX := Lib.hid ((undrew1 hb2).trans (hb3.mono (undrew1 hb2).size))
 clear hHeld hb2 hb3
 go_wp2_with fail
 go_ret
 have h1 := HW.out.2.2.2.2
 have h2 := h1.trans (HB.out.mono h1.size)
 exact ⟨rfl, h2.trans (HX.out.mono h2.size)⟩
end Go.Proofs.Ytdbgaccnejffpaa.Sat

namespace Go.Proofs.Ytdbgaccnejffpaa.Sat
open Go.RowKit Go.Proofs.Ytdbgaccnejffpaa.Ints Go.Proofs.Ytdbgaccnejffpaa.Mem Go.Proofs.Ytdbgaccnejffpaa.Src Go.Proofs.Ytdbgaccnejffpaa.Paths Go.Proofs.Ytdbgaccnejffpaa.Late Go.Proofs.Ytdbgaccnejffpaa.Trace
end Go.Proofs.Ytdbgaccnejffpaa.Sat

namespace Go.Proofs.Ytdbgaccnejffpaa.Trace
open Go.RowKit Go.Proofs.Ytdbgaccnejffpaa.Ints Go.Proofs.Ytdbgaccnejffpaa.Mem
def idsUp (n k : Nat) : List Int := ((List.range k).filter fun i => n.testBit i).map Int.ofNat
def idsM (n : Nat) : List Int := idsUp n 3
theorem ids_ok : ∀ n, n < 8 → idsOk (idsM n) 3 = true := by decide +kernel
theorem ids_len : ∀ n, n < 8 → (idsM n).length ≤ 3 := by decide +kernel
theorem ids_wf : ∀ n, n < 8 → ∀ z ∈ idsM n, (Lit.int .i64 z).wf = true := by decide +kernel
theorem infoInt : (Try.prog.info? 3).map (fun i => (i.zero, i.size, i.bytes)) = some (some (.int .i64 0), 1, 8) := by kernel_rfl
def GotIds (w : World) (l : List Int) (e : Ending) (w' : World) : Prop :=
 ∃ A c, e = .returned (.slice A l.length c) ∧ Rd .i64 w' A l.length l ∧ l.length ≤ c ∧ c ≤ maxLen ∧ Below w.heap.size w w' ∧ ∀ a, A = some a → w.heap.size ≤ a.block
set_option maxHeartbeats 8000000 in
set_option maxRecDepth 100000 in
theorem lawIdsI (n : Nat) (m : Int) (hm : m = (n : Int)) (hn : n < 8) (w : World) : Calls Try.prog 13 #[.int .u16 m] w (GotIds w (idsM n)) := by
 obtain ⟨i0, hi, hz0, hz1, hz2⟩ := info_parts infoInt
 have hni : m < 8 := by omega
 have hmi : 0 ≤ m := by omega
 have HN := Lib.hid hn
 have HMI := Lib.hid hm
 clear hn hm
 go_enter Try.func13, Try.ntmps13
 go_wp2
 go_loopw [3, 5] (fun v i wr => ∃ k : Nat, k ≤ 3 ∧ i = .int .i64 k ∧ wr.ownsRow w.heap.size 3 1 v (idsUp n k).length ((idsUp n k).map (Value.int .i64)) ∧ Below w.heap.size w wr) (fun _ i _ => 3 - (intOf i).toNat)
 case atStart => exact ⟨0, Nat.zero_le _, rfl, World.ownsRow_nil _ _ _ _, Below.refl _ _⟩
 case round =>
  obtain ⟨k, hk, rfl, hrow, hB⟩ := hrel
  have HRW := Lib.hid hrow
  have HB := Lib.hid hB
  clear hrow hB
  have h8 : n = 0 ∨ n = 1 ∨ n = 2 ∨ n = 3 ∨ n = 4 ∨ n = 5 ∨ n = 6 ∨ n = 7 := by have := HN.out; omega
  have h3 : k = 0 ∨ k = 1 ∨ k = 2 ∨ k = 3 := by omega
  rcases h3 with rfl | rfl | rfl | rfl
  ·rcases h8 with rfl | rfl | rfl | rfl | rfl | rfl | rfl | rfl
   ·obtain rfl : m = 0 := by have := HMI.out; omega
    go_wp2
    go_roundw
    case rel => exact ⟨1, by omega, by go_num, HRW.out, HB.out⟩
    case measure => simp [intOf]
   ·obtain rfl : m = 1 := by have := HMI.out; omega
    go_wp2_with (at_builtin; refine wpList_append_ints rfl (.tmp 14) (.tmp 16) 32 rfl .i64 w.heap.size 3 i0 8 Try.underlying32 hi hz0 hz1 hz2 _ _ _ rfl (HRW.out.alloc _) _ 1 1 [(0 : Int)] rfl (Rd.lit wr 3 (0, 0) [(0 : Int)] (fun z hz => by rw [List.mem_singleton.1 hz]; decide)) (by decide) (by decide) (le_alloc HB.out.size) ?_; intro v2 w2 hown2 hgr2)
    go_roundw
    case rel => exact ⟨1, by omega, by go_num, hown2, (HB.out.alloc HB.out.size _).grown hgr2 (le_alloc HB.out.size) (fun z hz => (HRW.out.lt z hz).1)⟩
    case measure => simp [intOf]
   ·obtain rfl : m = 2 := by have := HMI.out; omega
    go_wp2
    go_roundw
    case rel => exact ⟨1, by omega, by go_num, HRW.out, HB.out⟩
    case measure => simp [intOf]
   ·obtain rfl : m = 3 := by have := HMI.out; omega
    go_wp2_with (at_builtin; refine wpList_append_ints rfl (.tmp 14) (.tmp 16) 32 rfl .i64 w.heap.size 3 i0 8 Try.underlying32 hi hz0 hz1 hz2 _ _ _ rfl (HRW.out.alloc _) _ 1 1 [(0 : Int)] rfl (Rd.lit wr 3 (0, 0) [(0 : Int)] (fun z hz => by rw [List.mem_singleton.1 hz]; decide)) (by decide) (by decide) (le_alloc HB.out.size) ?_; intro v2 w2 hown2 hgr2)
    go_roundw
    case rel => exact ⟨1, by omega, by go_num, hown2, (HB.out.alloc HB.out.size _).grown hgr2 (le_alloc HB.out.size) (fun z hz => (HRW.out.lt z hz).1)⟩
    case measure => simp [intOf]
   ·obtain rfl : m = 4 := by have := HMI.out; omega
    go_wp2
    go_roundw
    case rel => exact ⟨1, by omega, by go_num, HRW.out, HB.out⟩
    case measure => simp [intOf]
   ·obtain rfl : m = 5 := by have := HMI.out; omega
    go_wp2_with (at_builtin; refine wpList_append_ints rfl (.tmp 14) (.tmp 16) 32 rfl .i64 w.heap.size 3 i0 8 Try.underlying32 hi hz0 hz1 hz2 _ _ _ rfl (HRW.out.alloc _) _ 1 1 [(0 : Int)] rfl (Rd.lit wr 3 (0, 0) [(0 : Int)] (fun z hz => by rw [List.mem_singleton.1 hz]; decide)) (by decide) (by decide) (le_alloc HB.out.size) ?_; intro v2 w2 hown2 hgr2)
    go_roundw
    case rel => exact ⟨1, by omega, by go_num, hown2, (HB.out.alloc HB.out.size _).grown hgr2 (le_alloc HB.out.size) (fun z hz => (HRW.out.lt z hz).1)⟩
    case measure => simp [intOf]
   ·obtain rfl : m = 6 := by have := HMI.out; omega
    go_wp2
    go_roundw
    case rel => exact ⟨1, by omega, by go_num, HRW.out, HB.out⟩
    case measure => simp [intOf]
   ·obtain rfl : m = 7 := by have := HMI.out; omega
    go_wp2_with (at_builtin; refine wpList_append_ints rfl (.tmp 14) (.tmp 16) 32 rfl .i64 w.heap.size 3 i0 8 Try.underlying32 hi hz0 hz1 hz2 _ _ _ rfl (HRW.out.alloc _) _ 1 1 [(0 : Int)] rfl (Rd.lit wr 3 (0, 0) [(0 : Int)] (fun z hz => by rw [List.mem_singleton.1 hz]; decide)) (by decide) (by decide) (le_alloc HB.out.size) ?_; intro v2 w2 hown2 hgr2)
    go_roundw
    case rel => exact ⟨1, by omega, by go_num, hown2, (HB.out.alloc HB.out.size _).grown hgr2 (le_alloc HB.out.size) (fun z hz => (HRW.out.lt z hz).1)⟩
    case measure => simp [intOf]
  ·rcases h8 with rfl | rfl | rfl | rfl | rfl | rfl | rfl | rfl
   ·obtain rfl : m = 0 := by have := HMI.out; omega
    go_wp2
    go_roundw
    case rel => exact ⟨2, by omega, by go_num, HRW.out, HB.out⟩
    case measure => simp [intOf]
   ·obtain rfl : m = 1 := by have := HMI.out; omega
    go_wp2
    go_roundw
    case rel => exact ⟨2, by omega, by go_num, HRW.out, HB.out⟩
    case measure => simp [intOf]
   ·obtain rfl : m = 2 := by have := HMI.out; omega
    go_wp2_with (at_builtin; refine wpList_append_ints rfl (.tmp 14) (.tmp 16) 32 rfl .i64 w.heap.size 3 i0 8 Try.underlying32 hi hz0 hz1 hz2 _ _ _ rfl (HRW.out.alloc _) _ 1 1 [(1 : Int)] rfl (Rd.lit wr 3 (0, 0) [(1 : Int)] (fun z hz => by rw [List.mem_singleton.1 hz]; decide)) (by decide) (by decide) (le_alloc HB.out.size) ?_; intro v2 w2 hown2 hgr2)
    go_roundw
    case rel => exact ⟨2, by omega, by go_num, hown2, (HB.out.alloc HB.out.size _).grown hgr2 (le_alloc HB.out.size) (fun z hz => (HRW.out.lt z hz).1)⟩
    case measure => simp [intOf]
   ·obtain rfl : m = 3 := by have := HMI.out; omega
    go_wp2_with (at_builtin; refine wpList_append_ints rfl (.tmp 14) (.tmp 16) 32 rfl .i64 w.heap.size 3 i0 8 Try.underlying32 hi hz0 hz1 hz2 _ _ _ rfl (HRW.out.alloc _) _ 1 1 [(1 : Int)] rfl (Rd.lit wr 3 (0, 0) [(1 : Int)] (fun z hz => by rw [List.mem_singleton.1 hz]; decide)) (by decide) (by decide) (le_alloc HB.out.size) ?_; intro v2 w2 hown2 hgr2)
    go_roundw
    case rel => exact ⟨2, by omega, by go_num, hown2, (HB.out.alloc HB.out.size _).grown hgr2 (le_alloc HB.out.size) (fun z hz => (HRW.out.lt z hz).1)⟩
    case measure => simp [intOf]
   ·obtain rfl : m = 4 := by have := HMI.out; omega
    go_wp2
    go_roundw
    case rel => exact ⟨2, by omega, by go_num, HRW.out, HB.out⟩
    case measure => simp [intOf]
   ·obtain rfl : m = 5 := by have := HMI.out; omega
    go_wp2
    go_roundw
    case rel => exact ⟨2, by omega, by go_num, HRW.out, HB.out⟩
    case measure => simp [intOf]
   ·obtain rfl : m = 6 := by have := HMI.out; omega
    go_wp2_with (at_builtin; refine wpList_append_ints rfl (.tmp 14) (.tmp 16) 32 rfl .i64 w.heap.size 3 i0 8 Try.underlying32 hi hz0 hz1 hz2 _ _ _ rfl (HRW.out.alloc _) _ 1 1 [(1 : Int)] rfl (Rd.lit wr 3 (0, 0) [(1 : Int)] (fun z hz => by rw [List.mem_singleton.1 hz]; decide)) (by decide) (by decide) (le_alloc HB.out.size) ?_; intro v2 w2 hown2 hgr2)
    go_roundw
    case rel => exact ⟨2, by omega, by go_num, hown2, (HB.out.alloc HB.out.size _).grown hgr2 (le_alloc HB.out.size) (fun z hz => (HRW.out.lt z hz).1)⟩
    case measure => simp [intOf]
   ·obtain rfl : m = 7 := by have := HMI.out; omega
    go_wp2_with (at_builtin; refine wpList_append_ints rfl (.tmp 14) (.tmp 16) 32 rfl .i64 w.heap.size 3 i0 8 Try.underlying32 hi hz0 hz1 hz2 _ _ _ rfl (HRW.out.alloc _) _ 1 1 [(1 : Int)] rfl (Rd.lit wr 3 (0, 0) [(1 : Int)] (fun z hz => by rw [List.mem_singleton.1 hz]; decide)) (by decide) (by decide) (le_alloc HB.out.size) ?_; intro v2 w2 hown2 hgr2)
    go_roundw
    case rel => exact ⟨2, by omega, by go_num, hown2, (HB.out.alloc HB.out.size _).grown hgr2 (le_alloc HB.out.size) (fun z hz => (HRW.out.lt z hz).1)⟩
    case measure => simp [intOf]
  ·rcases h8 with rfl | rfl | rfl | rfl | rfl | rfl | rfl | rfl
   ·obtain rfl : m = 0 := by have := HMI.out; omega
    go_wp2
    go_roundw
    case rel => exact ⟨3, by omega, by go_num, HRW.out, HB.out⟩
    case measure => simp [intOf]
   ·obtain rfl : m = 1 := by have := HMI.out; omega
    go_wp2
    go_roundw
    case rel => exact ⟨3, by omega, by go_num, HRW.out, HB.out⟩
    case measure => simp [intOf]
   ·obtain rfl : m = 2 := by have := HMI.out; omega
    go_wp2
    go_roundw
    case rel => exact ⟨3, by omega, by go_num, HRW.out, HB.out⟩
    case measure => simp [intOf]
   ·obtain rfl : m = 3 := by have := HMI.out; omega
    go_wp2
    go_roundw
    case rel => exact ⟨3, by omega, by go_num, HRW.out, HB.out⟩
    case measure => simp [intOf]
   ·obtain rfl : m = 4 := by have := HMI.out; omega
    go_wp2_with (at_builtin; refine wpList_append_ints rfl (.tmp 14) (.tmp 16) 32 rfl .i64 w.heap.size 3 i0 8 Try.underlying32 hi hz0 hz1 hz2 _ _ _ rfl (HRW.out.alloc _) _ 1 1 [(2 : Int)] rfl (Rd.lit wr 3 (0, 0) [(2 : Int)] (fun z hz => by rw [List.mem_singleton.1 hz]; decide)) (by decide) (by decide) (le_alloc HB.out.size) ?_; intro v2 w2 hown2 hgr2)
    go_roundw
    case rel => exact ⟨3, by omega, by go_num, hown2, (HB.out.alloc HB.out.size _).grown hgr2 (le_alloc HB.out.size) (fun z hz => (HRW.out.lt z hz).1)⟩
    case measure => simp [intOf]
   ·obtain rfl : m = 5 := by have := HMI.out; omega
    go_wp2_with (at_builtin; refine wpList_append_ints rfl (.tmp 14) (.tmp 16) 32 rfl .i64 w.heap.size 3 i0 8 Try.underlying32 hi hz0 hz1 hz2 _ _ _ rfl (HRW.out.alloc _) _ 1 1 [(2 : Int)] rfl (Rd.lit wr 3 (0, 0) [(2 : Int)] (fun z hz => by rw [List.mem_singleton.1 hz]; decide)) (by decide) (by decide) (le_alloc HB.out.size) ?_; intro v2 w2 hown2 hgr2)
    go_roundw
    case rel => exact ⟨3, by omega, by go_num, hown2, (HB.out.alloc HB.out.size _).grown hgr2 (le_alloc HB.out.size) (fun z hz => (HRW.out.lt z hz).1)⟩
    case measure => simp [intOf]
   ·obtain rfl : m = 6 := by have := HMI.out; omega
    go_wp2_with (at_builtin; refine wpList_append_ints rfl (.tmp 14) (.tmp 16) 32 rfl .i64 w.heap.size 3 i0 8 Try.underlying32 hi hz0 hz1 hz2 _ _ _ rfl (HRW.out.alloc _) _ 1 1 [(2 : Int)] rfl (Rd.lit wr 3 (0, 0) [(2 : Int)] (fun z hz => by rw [List.mem_singleton.1 hz]; decide)) (by decide) (by decide) (le_alloc HB.out.size) ?_; intro v2 w2 hown2 hgr2)
    go_roundw
    case rel => exact ⟨3, by omega, by go_num, hown2, (HB.out.alloc HB.out.size _).grown hgr2 (le_alloc HB.out.size) (fun z hz => (HRW.out.lt z hz).1)⟩
    case measure => simp [intOf]
   ·obtain rfl : m = 7 := by have := HMI.out; omega
    go_wp2_with (at_builtin; refine wpList_append_ints rfl (.tmp 14) (.tmp 16) 32 rfl .i64 w.heap.size 3 i0 8 Try.underlying32 hi hz0 hz1 hz2 _ _ _ rfl (HRW.out.alloc _) _ 1 1 [(2 : Int)] rfl (Rd.lit wr 3 (0, 0) [(2 : Int)] (fun z hz => by rw [List.mem_singleton.1 hz]; decide)) (by decide) (by decide) (le_alloc HB.out.size) ?_; intro v2 w2 hown2 hgr2)
    go_roundw
    case rel => exact ⟨3, by omega, by go_num, hown2, (HB.out.alloc HB.out.size _).grown hgr2 (le_alloc HB.out.size) (fun z hz => (HRW.out.lt z hz).1)⟩
    case measure => simp [intOf]
  ·clear h8
   go_wp2
   go_ret
   obtain ⟨A, c, e, h1, h2, -, h4⟩ := own_slice HRW.out
   subst e
   exact ⟨A, c, rfl, Rd.own HRW.out (ids_wf n HN.out), h1, h2, HB.out, fun a ha => (h4 a ha).1⟩
theorem lawIds (n : Nat) (hn : n < 8) (w : World) : Calls Try.prog 13 #[.int .u16 (n : Int)] w (GotIds w (idsM n)) := lawIdsI n n rfl hn w
end Go.Proofs.Ytdbgaccnejffpaa.Trace
