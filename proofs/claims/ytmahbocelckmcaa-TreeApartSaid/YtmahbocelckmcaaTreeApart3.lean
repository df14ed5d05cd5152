/-
  A list is made over its root and the parts of its kids. By an AI agent.
-/
import Derived.Test.YtmahbocelckmcaaTreeApart2
namespace Go.Proofs.Ytmahbocelckmcaa.Tree
open Go.RowKit Go.Proofs.Ytmahbocelckmcaa.Ints

theorem fields_range {n : Nd} (h : fieldsB n = true) : 1 ≤ n.kind ∧ n.kind ≤ 22 := by
  unfold fieldsB formKind regKind at h
  simp at h
  omega
theorem apart_all {L : List Nd} {nd : Nd} {st : List Nat} (hm : mayL L = true) (hst : st.length = kidc nd.kind) (hf : fieldsB nd = true) (ht : ∀ t ∈ st, t + 1 < L.length)
    (hs : (st = [] ∧ L = overL nd [] []) ∨ (∃ t : Nat, st = [t] ∧ L = overL nd (partL L (t : Int)) []) ∨ (∃ t u : Nat, st = [t, u] ∧ L = overL nd (partL L (t : Int)) (partL L (u : Int)))) :
    joinL nd (st.map (fun t : Nat => partL L (t : Int))) = L ∧ depthL L = (st.map (fun t : Nat => partL L (t : Int))).foldl (fun m l => max m (depthL l)) 0 + 1 ∧
      L.length = 1 + (st.map (fun t : Nat => partL L (t : Int))).foldl (fun m l => m + l.length) 0 := by
  have ha := kidc_arity (fields_range hf)
  have hp : ∀ t ∈ st, mayL (partL L (t : Int)) = true := fun t h => part_may hm (by have := ht t h; omega)
  have hall : (st.map (fun t : Nat => partL L (t : Int))).all mayL = true := by
    rw [List.all_eq_true]
    intro l hl
    obtain ⟨t, h, rfl⟩ := List.mem_map.1 hl
    exact hp t h
  have har : arity nd.kind = ((st.map (fun t : Nat => partL L (t : Int))).length : Int) := by rw [ha, ← hst, List.length_map]
  have hj : ∀ {a b : List Nd}, (st.map (fun t : Nat => partL L (t : Int))).headD [] = a → (st.map (fun t : Nat => partL L (t : Int))).tail.getLastD [] = b → L = overL nd a b → joinL nd (st.map (fun t : Nat => partL L (t : Int))) = L := fun {a b} h1 h2 h3 => by
    unfold joinL
    rw [if_pos ⟨har, hall⟩, h1, h2, ← h3, if_pos hm]
  rcases hs with ⟨rfl, h⟩ | ⟨t, rfl, h⟩ | ⟨t, u, rfl, h⟩
  · refine ⟨hj rfl rfl h, ?_, ?_⟩
    · have := depth_over0 (n := nd) (by rw [← h]; exact hm)
      rw [← h] at this
      exact this
    · have := over_length nd [] []
      rw [← h] at this
      exact this
  · have p1 := hp t (by simp)
    refine ⟨hj rfl rfl h, ?_, ?_⟩
    · have := depth_over1 (n := nd) p1 (by rw [← h]; exact hm)
      rw [← h] at this
      exact this
    · have := over_length nd (partL L (t : Int)) []
      rw [← h] at this
      simp only [List.map_cons, List.map_nil, List.foldl_cons, List.foldl_nil]
      simp only [List.length_nil] at this
      omega
  · have p1 := hp t (by simp)
    have p2 := hp u (by simp)
    refine ⟨hj rfl rfl h, ?_, ?_⟩
    · have := depth_over2 (n := nd) p1 p2 (by rw [← h]; exact hm)
      rw [← h] at this
      exact this
    · have := over_length nd (partL L (t : Int)) (partL L (u : Int))
      rw [← h] at this
      simp only [List.map_cons, List.map_nil, List.foldl_cons, List.foldl_nil]
      omega
theorem foldl_fst {β : Type} (f : β → List Nd → β) (b : β) (σ : List SL) : σ.foldl (fun m s => f m s.1) b = (σ.map (·.1)).foldl f b := by
  rw [List.foldl_map]
end Go.Proofs.Ytmahbocelckmcaa.Tree
