/-
  The walks of the law's awake and tells. By an AI agent.
-/
import Derived.Test.YtmahbocelckmcaaTreeLand3
import Derived.Test.YtmahbocelckmcaaTreeDepthL
import Derived.Test.YtmahbocelckmcaaTreeNamesL
namespace Go.Proofs.Ytmahbocelckmcaa.Tree
open Go.RowKit Go.Sort Go.Proofs.Ytmahbocelckmcaa.Ints

def awakeL : List Nd := [⟨3, { data := #[112] }, 0, 0, []⟩, ⟨4, { data := #[] }, 0, 0, [0]⟩]
theorem awake_may : mayL awakeL = true := by decide
theorem awake_form : formL awakeL = true := by decide
theorem awake_reg : regL awakeL = false := by decide
theorem awake_depth : depthL awakeL = 2 := by decide
theorem awake_part : (partL awakeL 0).length = 1 := by decide
theorem awake_names : (namesL awakeL).length = 1 := by
  unfold namesL
  rw [if_pos awake_may, List.length_mergeSort]
  decide
theorem awake_nodes (w : World) (T1 T2 : TypeId) : Nodes Any ((w.alloc (.cells #[.int .i64 0] T1)).alloc (.cells #[.int .i64 3, .string { data := #[112] }, .int .i64 0, .int .i64 0, .slice none 0 0, .int .i64 4, .string { data := #[] }, .int .i64 0, .int .i64 0, .slice (some ⟨w.heap.size, 0, none⟩) 1 1] T2)) (some ⟨w.heap.size + 1, 0, none⟩) awakeL := by
  intro _
  refine ⟨_, 0, rfl, fun j n hj => ?_⟩
  have hc : ∀ (o : Nat) (u : Value), (#[.int .i64 3, .string { data := #[112] }, .int .i64 0, .int .i64 0, .slice none 0 0, .int .i64 4, .string { data := #[] }, .int .i64 0, .int .i64 0, .slice (some ⟨w.heap.size, 0, none⟩) 1 1] : Array Value)[o]? = some u →
      ((w.alloc (.cells #[.int .i64 0] T1)).alloc (.cells #[.int .i64 3, .string { data := #[112] }, .int .i64 0, .int .i64 0, .slice none 0 0, .int .i64 4, .string { data := #[] }, .int .i64 0, .int .i64 0, .slice (some ⟨w.heap.size, 0, none⟩) 1 1] T2)).cell? ⟨w.heap.size + 1, o, none⟩ = some u := fun o u hu => by
    rw [cell_of_row _ (w.heap.size + 1) o _ _ (0, 0) (new_at2 w _ _)]; exact hu
  have hs : ∀ x : Int, (x = 0 ∨ x = 3 ∨ x = 4) → small64 x := fun x hx => by unfold small64; omega
  match j, hj with
  | 0, hj =>
    simp only [awakeL, List.getElem?_cons_zero, Option.some.injEq] at hj
    subst hj
    exact ⟨hc 0 _ rfl, hc 1 _ rfl, hc 2 _ rfl, hc 3 _ rfl, hs _ (by simp), hs _ (by simp), hs _ (by simp), by decide, none, 0, hc 4 _ rfl, Rd.nil _ _ _, Nat.le_refl _, by decide, trivial, fun _ _ _ => trivial⟩
  | 1, hj =>
    simp only [awakeL, List.getElem?_cons_succ, List.getElem?_cons_zero, Option.some.injEq] at hj
    subst hj
    refine ⟨hc 5 _ rfl, hc 6 _ rfl, hc 7 _ rfl, hc 8 _ rfl, hs _ (by simp), hs _ (by simp), hs _ (by simp), by decide, some ⟨w.heap.size, 0, none⟩, 1, hc 9 _ rfl, ?_, Nat.le_refl _, by decide, trivial, fun _ _ _ => trivial⟩
    exact (Rd.lit w T1 (0, 0) [0] (fun z hz => by rw [List.mem_singleton.1 hz]; rfl)).alloc _
  | j + 2, hj => simp [awakeL] at hj

set_option maxHeartbeats 4000000 in
theorem awake (w : World) :
    Calls Try.prog 9 #[] w fun e w' => e = .returned (.bool true) ∧ Below w.heap.size w w' := by
  have HN0 := Lib.hid (awake_nodes w 3 33)
  have hpl := awake_part
  have hnl := awake_names
  go_enter Try.func9, Try.ntmps9
  go_wp2_with fail
  have HB0 := Lib.hid (show Below w.heap.size w ((w.alloc (.cells #[.int .i64 0] 3)).alloc (.cells #[.int .i64 3, .string { data := #[112] }, .int .i64 0, .int .i64 0, .slice none 0 0, .int .i64 4, .string { data := #[] }, .int .i64 0, .int .i64 0, .slice (some ⟨w.heap.size, 0, none⟩) 1 1] 33)) from ((Below.refl _ _).alloc (Nat.le_refl _) _).alloc (le_alloc (Nat.le_refl _)) _)
  generalize (w.alloc (.cells #[.int .i64 0] 3)).alloc (.cells #[.int .i64 3, .string { data := #[112] }, .int .i64 0, .int .i64 0, .slice none 0 0, .int .i64 4, .string { data := #[] }, .int .i64 0, .int .i64 0, .slice (some ⟨w.heap.size, 0, none⟩) 1 1] 33) = W0 at HN0 HB0 ⊢
  have h1 := landForm (some ⟨w.heap.size + 1, 0, none⟩) 2 2 awakeL W0 rfl (by decide) HN0.out
  rw [awake_form] at h1
  refine h1.mono ?_
  rintro e w1 ⟨rfl, hb1⟩
  clear h1
  have HB1 := Lib.hid hb1
  clear hb1
  go_wp2_with fail
  have h1 := landReg (some ⟨w.heap.size + 1, 0, none⟩) 2 2 awakeL w1 rfl (by decide) (HN0.out.below HB1.out)
  rw [awake_reg] at h1
  refine h1.mono ?_
  rintro e w2 ⟨rfl, hb2⟩
  clear h1
  have HB2 := Lib.hid (HB1.out.trans (hb2.mono HB1.out.size))
  clear hb2
  go_wp2_with fail
  have h1 := landDepth (some ⟨w.heap.size + 1, 0, none⟩) 2 2 awakeL w2 rfl (by decide) (HN0.out.below HB2.out)
  rw [awake_depth] at h1
  refine h1.mono ?_
  rintro e w3 ⟨rfl, hb3⟩
  clear h1
  have HB3 := Lib.hid (HB2.out.trans (hb3.mono HB2.out.size))
  clear hb3
  go_wp2_with fail
  have h1 := landPart (some ⟨w.heap.size + 1, 0, none⟩) 2 2 0 awakeL w3 rfl (by decide) (Nat.le_refl _) (HN0.out.below HB3.out) (by unfold small64; decide)
  refine h1.mono ?_
  rintro e w4 ⟨A4, c4, rfl, -, -, -, hb4⟩
  clear h1
  have HB4 := Lib.hid (HB3.out.trans (hb4.mono HB3.out.size))
  clear hb4
  go_wp2_with fail
  have h1 := landNames (some ⟨w.heap.size + 1, 0, none⟩) 2 2 awakeL w4 rfl (by decide) (HN0.out.below HB4.out)
  refine h1.mono ?_
  rintro e w5 ⟨A5, c5, rfl, -, -, -, hb5⟩
  clear h1
  have HB5 := Lib.hid (HB4.out.trans (hb5.mono HB4.out.size))
  clear hb5
  go_wp2
  go_ret
  exact ⟨rfl, HB0.out.trans (HB5.out.mono HB0.out.size)⟩
end Go.Proofs.Ytmahbocelckmcaa.Tree
