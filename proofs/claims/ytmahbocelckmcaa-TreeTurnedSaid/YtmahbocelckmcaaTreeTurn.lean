/-
  One thing in one node of a list of one's own changed: what the list then reads as. By an AI agent.
-/
import Derived.Test.YtmahbocelckmcaaTreeSet
namespace Go.Proofs.Ytmahbocelckmcaa.Tree
open Go.RowKit Go.Proofs.Ytmahbocelckmcaa.Ints

theorem Nodes.take {S : Nat → Prop} {w : World} {A : Option Addr} {l : List Nd} (h : Nodes S w A l) (k : Nat) : Nodes S w A (l.take k) := fun h0 => by
  rw [List.length_take] at h0
  obtain ⟨b, off, e, hn⟩ := h (by omega)
  refine ⟨b, off, e, fun j n hj => hn j n ?_⟩
  rw [List.getElem?_take] at hj
  split at hj
  · exact hj
  · cases hj
/-- What a row of one's own reads as, whatever its blocks. -/
theorem OwnNodes.any {S : Nat → Prop} {w : World} {base n c : Nat} {A : Option Addr} {σ : List SNd} (h : OwnNodes S w base (.slice A n c) σ) : Nodes Any w A (σ.map (·.1)) := by
  obtain ⟨A', c', e, hN, -, -⟩ := (h.mono (S' := Any) fun _ _ _ => trivial).reads (fun _ _ _ => trivial)
  injection e with e
  subst e
  exact hN
/-- The first kid of the i-th node set anew. -/
theorem kid_set {S : Nat → Prop} {w : World} {base g n c i gk : Nat} {ck : Nat} {σ : List SNd} {nd : Nd} {x : Int} (h : OwnNodes S w base (.slice (some ⟨g, 0, none⟩) n c) σ) (hK : KidsOwn w base (.slice (some ⟨g, 0, none⟩) n c) σ) (hS : Sep σ) (hs : σ[i]? = some (nd, some ⟨gk, 0, none⟩, ck)) (_h0 : 0 < nd.kids.length)
    (hx : (Lit.int .i64 x).wf = true) : OwnNodes Any (w.setCell ⟨gk, 0, none⟩ (.int .i64 x)) base (.slice (some ⟨g, 0, none⟩) n c) (σ.set i ({ nd with kids := nd.kids.set 0 x }, some ⟨gk, 0, none⟩, ck)) := by
  have hm := List.mem_of_getElem? hs
  obtain ⟨hr, hne⟩ := hK _ hm
  have hgk : (gk : Nat) ≠ g := fun e => by
    rcases hne with e2 | e2
    · cases e2
    · exact e2 (by subst e; rfl)
  obtain ⟨i0, hi⟩ := List.getElem?_eq_some_iff.1 hs
  have hn : n = σ.length := by
    rcases h.1.2 with ⟨e, -⟩ | ⟨g', cap, cur, e, -⟩
    · cases e
    · injection e
  subst hn
  have hrow : rowS (σ.set i ({ nd with kids := nd.kids.set 0 x }, some ⟨gk, 0, none⟩, ck)) = rowS σ := by
    have e := rowS_set σ i 4 (nd, some ⟨gk, 0, none⟩, ck) ({ nd with kids := nd.kids.set 0 x }, some ⟨gk, 0, none⟩, ck) (.slice (some ⟨gk, 0, none⟩) nd.kids.length ck) hs (by omega) (by simp [cellsS])
    rw [e]
    have hat := rowS_at σ i _ hs 4 (by omega)
    have hlt : i * 5 + 4 < (rowS σ).length := by rw [rowS_len]; omega
    rw [Nat.mul_comm, List.getElem?_eq_getElem hlt] at hat
    simp only [cellsS, List.getElem?_cons_succ, List.getElem?_cons_zero, Option.some.injEq] at hat
    rw [← hat, List.set_getElem_self]
  have hg : w.grownBy (w.setCell ⟨gk, 0, none⟩ (.int .i64 x)) (some gk) := ⟨rfl, rfl, rfl, by simp, fun j _ hne => Below.heap_setCell w _ _ j (fun e => hne (by rw [e]))⟩
  refine ⟨?_, fun t ht => ?_⟩
  · rw [List.length_set, hrow]
    exact h.1.kept hg (Or.inr (by simp [Value.ownBlock]; omega))
  · obtain ⟨j, hj, rfl⟩ := List.getElem_of_mem ht
    rw [List.length_set] at hj
    by_cases hij : i = j
    · subst hij
      rw [List.getElem_set_self]
      obtain ⟨⟨k1, k2, k3, k4, k5, k6, k7⟩, k8⟩ := h.2 _ hm
      have hst := (World.ownsRow.stored (g := gk) hr 0 (.int .i64 x)).1
      rw [← List.map_set] at hst
      have hrd := Rd.own (k := .i64) hst (fun z hz => by
        rcases List.mem_or_eq_of_mem_set hz with hz | rfl
        · exact k5.all z hz
        · exact hx)
      refine ⟨⟨k1, k2, k3, k4, by simp only [List.length_set]; exact hrd, by simp only [List.length_set]; exact k6, k7⟩, fun a ha _ => ⟨trivial, fun e => ?_⟩⟩
      injection ha with ha
      subst ha
      simp [Value.ownBlock] at e
      omega
    · rw [List.getElem_set_ne hij]
      have hkt := (h.mono (S' := Any) fun _ _ _ => trivial).2 _ (List.getElem_mem hj)
      have hsep : kb σ[j] = none ∨ kb σ[j] ≠ some gk := by
        have hp := List.pairwise_iff_getElem.1 hS
        have he : kb σ[i] = some gk := by rw [hi]; rfl
        rcases Nat.lt_or_gt_of_ne hij with hlt | hlt
        · rcases hp i j i0 hj hlt with e | e
          · rw [he] at e; cases e
          · exact Or.inr fun e2 => e (by rw [he, e2])
        · rcases hp j i hj i0 hlt with e | e
          · exact Or.inl e
          · exact Or.inr fun e2 => e (by rw [he, e2])
      obtain ⟨⟨k1, k2, k3, k4, k5, k6, k7⟩, k8⟩ := hkt
      refine ⟨⟨k1, k2, k3, k4, k5.grown hg (fun a ha e => ?_), k6, k7⟩, k8⟩
      rcases hsep with e2 | e2
      · unfold kb at e2; rw [ha] at e2; cases e2
      · exact e2 (by unfold kb; rw [ha]; exact e)
end Go.Proofs.Ytmahbocelckmcaa.Tree
