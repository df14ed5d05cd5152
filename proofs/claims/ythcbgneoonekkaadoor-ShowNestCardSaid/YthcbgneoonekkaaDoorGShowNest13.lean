/-
  The walks of the reference's rank, bare and word. By an AI agent.
  A block of memory, cell by cell; rows cut short. By an AI agent.
-/
import Derived.Test.YthcbgneoonekkaaDoorGShowNest11
import Derived.Test.YthcbgneoonekkaaDoorGShowNest12
namespace Go.Proofs.YthcbgneoonekkaaDoor.Show
open Go.RowKit Go.Proofs.YthcbgneoonekkaaDoor.Tree Go.Proofs.YthcbgneoonekkaaDoor.Itoa Go.Proofs.YthcbgneoonekkaaDoor.Ints

theorem rank_ways (k : Int) : (k = 7 ∨ k = 20 ∨ k = 6 ∨ k = 21 ∨ k = 5 ∨ k = 22 ∨ k = 14 ∨ k = 15 ∨ k = 18 ∨ k = 19 ∨ k = 4 ∨ k = 8 ∨ k = 9 ∨ k = 10 ∨ k = 11 ∨ k = 12 ∨ k = 13) ∨
    ((k == 7) = false ∧ (k == 20) = false ∧ (k == 6) = false ∧ (k == 21) = false ∧ (k == 5) = false ∧ (k == 22) = false ∧ (k == 14) = false ∧ (k == 15) = false ∧ (k == 18) = false ∧ (k == 19) = false ∧ (k == 4) = false ∧ (k == 8) = false ∧ (k == 9) = false ∧ (k == 10) = false ∧ (k == 11) = false ∧ (k == 12) = false ∧ (k == 13) = false ∧ rank k = 6) := by
  by_cases h : k = 7 ∨ k = 20 ∨ k = 6 ∨ k = 21 ∨ k = 5 ∨ k = 22 ∨ k = 14 ∨ k = 15 ∨ k = 18 ∨ k = 19 ∨ k = 4 ∨ k = 8 ∨ k = 9 ∨ k = 10 ∨ k = 11 ∨ k = 12 ∨ k = 13
  · exact Or.inl h
  · right
    have e : ∀ c : Int, k ≠ c → (k == c) = false := fun c h => beq_eq_false_iff_ne.2 h
    refine ⟨e _ (by omega), e _ (by omega), e _ (by omega), e _ (by omega), e _ (by omega), e _ (by omega), e _ (by omega), e _ (by omega), e _ (by omega), e _ (by omega), e _ (by omega), e _ (by omega), e _ (by omega), e _ (by omega), e _ (by omega), e _ (by omega), e _ (by omega), ?_⟩
    unfold rank
    rw [if_neg (by omega), if_neg (by omega), if_neg (by omega), if_neg (by omega), if_neg (by omega)]
theorem rank_range (k : Int) : 1 ≤ rank k ∧ rank k ≤ 6 := by
  unfold rank
  repeat' split
  all_goals omega
end Go.Proofs.YthcbgneoonekkaaDoor.Show

namespace Go.Proofs.YthcbgneoonekkaaDoor.Parse
open Go.RowKit Go.Proofs.YthcbgneoonekkaaDoor.Ints Go.Proofs.YthcbgneoonekkaaDoor.Tree

/-! ### a block -/
/-- The block g begins with the cells vs. -/
def Blk (w : World) (g : Nat) (vs : List Value) : Prop := g < w.heap.size ∧ ∀ (k : Nat) (v : Value), vs[k]? = some v → w.cell? ⟨g, k, none⟩ = some v ∧ w.frozen? ⟨g, k, none⟩ = false
theorem Blk.cell {w : World} {g : Nat} {vs : List Value} (h : Blk w g vs) (k : Nat) {v : Value} (hv : vs[k]? = some v) : w.cell? ⟨g, k, none⟩ = some v := (h.2 k v hv).1
theorem Blk.fz {w : World} {g : Nat} {vs : List Value} (h : Blk w g vs) (k : Nat) {v : Value} (hv : vs[k]? = some v) : w.frozen? ⟨g, k, none⟩ = false := (h.2 k v hv).2
theorem Blk.same {w w' : World} {g : Nat} {vs : List Value} (h : Blk w g vs) (hs : w.heap.size ≤ w'.heap.size) (hb : w'.heap[g]? = w.heap[g]?) : Blk w' g vs :=
  ⟨Nat.lt_of_lt_of_le h.1 hs, fun k _ hv => ⟨(World.cell?_of_block (w := w) (a := ⟨g, k, none⟩) hb).trans (h.cell k hv), (World.frozen?_of_block (w := w) (a := ⟨g, k, none⟩) hb).trans (h.fz k hv)⟩⟩
theorem Blk.below {B : Nat} {w w' : World} {g : Nat} {vs : List Value} (h : Blk w g vs) (hb : Below B w w') (hg : g < B) : Blk w' g vs := h.same hb.size (hb.block g hg)
theorem Blk.later {w w' : World} {g : Nat} {vs : List Value} (h : Blk w g vs) (hb : Below w.heap.size w w') : Blk w' g vs := h.below hb h.1
theorem Blk.alloc {w : World} {g : Nat} {vs : List Value} (h : Blk w g vs) (o : Obj) : Blk (w.alloc o) g vs := h.later ((Below.refl _ _).alloc (Nat.le_refl _) _)
theorem Blk.grown {w w' : World} {g : Nat} {vs : List Value} {row : Option Nat} (h : Blk w g vs) (hg : w.grownBy w' row) (hne : some g ≠ row) : Blk w' g vs := h.same hg.size (hg.block g h.1 hne)
theorem Blk.set {w : World} {g : Nat} {vs : List Value} (h : Blk w g vs) (k : Nat) (u : Value) (hk : k < vs.length) : Blk (w.setCell ⟨g, k, none⟩ u) g (vs.set k u) := by
  refine ⟨by simpa using h.1, fun j v hv => ⟨?_, ?_⟩⟩
  · rw [List.getElem?_set] at hv
    by_cases e : k = j
    · subst e
      rw [if_pos rfl, if_pos hk] at hv
      cases hv
      exact World.cell?_setCell_same _ _ _ (h.cell k (List.getElem?_eq_getElem hk))
    · rw [if_neg e] at hv
      exact (World.cell?_setCell_other _ _ _ _ (fun e' => e (by injection e'))).trans (h.cell j hv)
  · rw [World.frozen?_setCell]
    rw [List.getElem?_set] at hv
    by_cases e : k = j
    · subst e
      exact h.fz k (List.getElem?_eq_getElem hk)
    · rw [if_neg e] at hv
      exact h.fz j hv
theorem Blk.other {w : World} {g : Nat} {vs : List Value} (h : Blk w g vs) (p : Addr) (u : Value) (hp : g ≠ p.block) : Blk (w.setCell p u) g vs := h.same (by simp) (Below.heap_setCell w p u g hp)
theorem Blk.drew {w : World} {g : Nat} {vs : List Value} (h : Blk w g vs) : Blk w.drew g vs := h
theorem Blk.drewN {w : World} {g : Nat} {vs : List Value} (h : Blk w g vs) (n : Nat) : Blk (w.drewN n) g vs := h
theorem Blk.new (w : World) (cs : Array Value) (T : TypeId) (vs : List Value) (hv : cs.toList = vs) : Blk (w.alloc (.cells cs T)) w.heap.size vs := by
  subst hv
  refine ⟨by simp, fun k v hk => ⟨?_, ?_⟩⟩
  · rw [cell_of_row _ w.heap.size k _ T (0, 0) (heap_alloc_new w _)]
    simpa using hk
  · exact World.frozen?_alloc_new _ _ _ _

theorem own_take {w : World} {base : Nat} {e : TypeId} {size : Nat} {A : Option Addr} {n c k : Nat} {xs ys : List Value} (h : w.ownsRow base e size (.slice A n c) n xs) (hk : k ≤ n) (hy : ys = xs.take (k * size)) : w.ownsRow base e size (.slice A k c) k ys := by
  subst hy
  obtain ⟨h1, h2⟩ := h
  have hle : k * size ≤ n * size := Nat.mul_le_mul_right _ hk
  refine ⟨by rw [List.length_take, h1]; omega, ?_⟩
  rcases h2 with ⟨h3, h4⟩ | ⟨g, cap, cur, h3, h4, h5, h6, h7, h8, h9⟩
  · have h3 : (A = none ∧ n = 0 ∧ c = 0) := by injection h3 with a b d; exact ⟨a, b, d⟩
    obtain ⟨rfl, rfl, rfl⟩ := h3
    have : k = 0 := by omega
    subst this
    exact Or.inl ⟨rfl, rfl⟩
  · injection h3 with a b d
    subst a; subst d
    refine Or.inr ⟨g, c, cur, rfl, h4, h5, by omega, h7, h8, ?_⟩
    rw [← h9, List.take_take, Nat.min_eq_left hle]
theorem own_form8 {w : World} {base : Nat} {e : TypeId} {size : Nat} {v : Value} {n : Nat} {xs : List Value} (h : w.ownsRow base e size v n xs) (hn : 0 < n) : ∃ g cap, v = .slice (some ⟨g, 0, none⟩) n cap ∧ base ≤ g ∧ g < w.heap.size ∧ n ≤ cap ∧ cap ≤ maxLen := by
  have hlt := h.lt
  rcases h.2 with ⟨_, h2⟩ | ⟨g, cap, cur, rfl, _, _, h3, h4, _⟩
  · omega
  · exact ⟨g, cap, rfl, (hlt g rfl).1, (hlt g rfl).2, h3, h4⟩
theorem own_same (A : Option Addr) (k n c : Nat) : (Value.slice A k c).ownBlock = (Value.slice A n c).ownBlock := by cases A <;> rfl

end Go.Proofs.YthcbgneoonekkaaDoor.Parse
