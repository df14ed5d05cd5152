/-
  The laws' own formula, in memory. By an AI agent.
  The walk of the laws' awake. By an AI agent.
-/
import Derived.Test.YthcbgneoonekkaaDoorGShowNest31
import Derived.Test.YthcbgneoonekkaaDoorGShowNest24
import Derived.Test.YthcbgneoonekkaaDoorGShowNest27
namespace Go.Proofs.YthcbgneoonekkaaDoor.Tree
open Go.RowKit Go.Proofs.YthcbgneoonekkaaDoor.Ints

def awakeL : List Nd := [⟨3, { data := #[112] }, 0, 0, []⟩, ⟨4, { data := #[] }, 0, 0, [0]⟩]
theorem awake_may : mayL awakeL = true := by decide
theorem awake_nodes (w : World) (T1 T2 : TypeId) : Nodes Any ((w.alloc (.cells #[.int .i64 0] T1)).alloc (.cells #[.int .i64 3, .string { data := #[112] }, .int .i64 0, .int .i64 0, .slice none 0 0, .int .i64 4, .string { data := #[] }, .int .i64 0, .int .i64 0, .slice (some ⟨w.heap.size, 0, none⟩) 1 1] T2)) (some ⟨w.heap.size + 1, 0, none⟩) awakeL := by
  intro _
  refine ⟨_, 0, rfl, fun j n hj => ?_⟩
  have hc : ∀ (o : Nat) (u : Value), (#[.int .i64 3, .string { data := #[112] }, .int .i64 0, .int .i64 0, .slice none 0 0, .int .i64 4, .string { data := #[] }, .int .i64 0, .int .i64 0, .slice (some ⟨w.heap.size, 0, none⟩) 1 1] : Array Value)[o]? = some u →
      ((w.alloc (.cells #[.int .i64 0] T1)).alloc (.cells #[.int .i64 3, .string { data := #[112] }, .int .i64 0, .int .i64 0, .slice none 0 0, .int .i64 4, .string { data := #[] }, .int .i64 0, .int .i64 0, .slice (some ⟨w.heap.size, 0, none⟩) 1 1] T2)).cell? ⟨w.heap.size + 1, o, none⟩ = some u := fun o u hu => by
    rw [cell_of_row _ (w.heap.size + 1) o _ _ (0, 0) (new_at2 w _ _)]; exact hu
  have hs : ∀ x : Int, (x = 0 ∨ x = 3 ∨ x = 4) → small64 x := fun x hx => by unfold small64; omega
  match j, hj with
  | 0, hj =>
    simp only [awakeL, List.getElem?_cons_zero, Option.some.injEq] at hj
    subst hj
    exact ⟨hc 0 _ rfl, hc 1 _ rfl, hc 2 _ rfl, hc 3 _ rfl, hs _ (by simp), hs _ (by simp), hs _ (by simp), by decide, none, 0, hc 4 _ rfl, Rd.nil _ _ _, Nat.le_refl _, by decide, trivial, fun _ _ _ => trivial⟩
  | 1, hj =>
    simp only [awakeL, List.getElem?_cons_succ, List.getElem?_cons_zero, Option.some.injEq] at hj
    subst hj
    refine ⟨hc 5 _ rfl, hc 6 _ rfl, hc 7 _ rfl, hc 8 _ rfl, hs _ (by simp), hs _ (by simp), hs _ (by simp), by decide, some ⟨w.heap.size, 0, none⟩, 1, hc 9 _ rfl, ?_, Nat.le_refl _, by decide, trivial, fun _ _ _ => trivial⟩
    exact (Rd.lit w T1 (0, 0) [0] (fun z hz => by rw [List.mem_singleton.1 hz]; rfl)).alloc _
  | j + 2, hj => simp [awakeL] at hj

end Go.Proofs.YthcbgneoonekkaaDoor.Tree

namespace Go.Proofs.YthcbgneoonekkaaDoor.Show
open Go.RowKit Go.Proofs.YthcbgneoonekkaaDoor.Tree Go.Proofs.YthcbgneoonekkaaDoor.Itoa Go.Proofs.YthcbgneoonekkaaDoor.Ints

theorem awake_text : textL awakeL = [33, 112] := by decide
theorem awake_nest : nestL awakeL = 1 := by decide
set_option maxHeartbeats 4000000 in
set_option maxRecDepth 100000 in
theorem awake (w : World) (hT : Tabs w) :
    Calls Tryd.prog 10 #[] w fun e w' => e = .returned (.bool true) ∧ Below w.heap.size w w' := by
  have HN0 := Lib.hid (awake_nodes w 3 30)
  have HT := Lib.hid (fun W (hb : Below w.heap.size w W) => hT.later hb)
  clear hT
  go_enter Tryd.func10, Tryd.ntmps10
  go_wp2_with fail
  have HB0 := Lib.hid (show Below w.heap.size w ((w.alloc (.cells #[.int .i64 0] 3)).alloc (.cells #[.int .i64 3, .string { data := #[112] }, .int .i64 0, .int .i64 0, .slice none 0 0, .int .i64 4, .string { data := #[] }, .int .i64 0, .int .i64 0, .slice (some ⟨w.heap.size, 0, none⟩) 1 1] 30)) from ((Below.refl _ _).alloc (Nat.le_refl _) _).alloc (le_alloc (Nat.le_refl _)) _)
  generalize (w.alloc (.cells #[.int .i64 0] 3)).alloc (.cells #[.int .i64 3, .string { data := #[112] }, .int .i64 0, .int .i64 0, .slice none 0 0, .int .i64 4, .string { data := #[] }, .int .i64 0, .int .i64 0, .slice (some ⟨w.heap.size, 0, none⟩) 1 1] 30) = W0 at HN0 HB0 ⊢
  have h1 := landText (some ⟨w.heap.size + 1, 0, none⟩) 2 2 awakeL W0 rfl (by decide) HN0.out (HT.out _ HB0.out)
  rw [awake_text, show Lex.bytes [33, 112] = { data := #[33, 112] } from rfl] at h1
  refine h1.mono ?_
  rintro e w1 ⟨rfl, hb1⟩
  clear h1
  have HB1 := Lib.hid hb1
  clear hb1
  go_wp2_with fail
  have h1 := landNest (some ⟨w.heap.size + 1, 0, none⟩) 2 2 awakeL w1 rfl (by decide) (HN0.out.below HB1.out)
  rw [awake_nest] at h1
  refine h1.mono ?_
  rintro e w2 ⟨rfl, hb2⟩
  clear h1
  have HB2 := Lib.hid (HB1.out.trans (hb2.mono HB1.out.size))
  clear hb2
  go_wp2_with fail
  go_ret
  exact ⟨rfl, HB0.out.trans (HB2.out.mono HB0.out.size)⟩
end Go.Proofs.YthcbgneoonekkaaDoor.Show
