/-
  What the landed Join makes, as a plain function: it is what the document's makes; what stands while it goes on. By an AI agent.
-/
import Derived.Test.YtmahbocelckmcaaTreeBuild
import Derived.Test.YtmahbocelckmcaaTreeJoin
import Derived.Test.YtmahbocelckmcaaTreeMoved
import Derived.Test.YtmahbocelckmcaaTreePartL
namespace Go.Proofs.Ytmahbocelckmcaa.Tree
open Go.RowKit Go.Proofs.Ytmahbocelckmcaa.Ints

def jStep (P : List Nd × List Int) (l : List Nd) : List Nd × List Int := (P.1 ++ l.map (shiftNd (P.1.length : Int)), P.2 ++ [((P.1.length + l.length : Nat) : Int) - 1])
def jFold (ls : List (List Nd)) : List Nd × List Int := ls.foldl jStep ([], [])
def jRes (nd : Nd) (ls : List (List Nd)) : List Nd := (jFold ls).1 ++ [{ nd with kids := (jFold ls).2 }]
def jL (nd : Nd) (ls : List (List Nd)) : List Nd := if kidc nd.kind = ls.length ∧ ls.all mayL = true ∧ mayL (jRes nd ls) = true then jRes nd ls else []
theorem jFold_snoc (ls : List (List Nd)) (l : List Nd) : jFold (ls ++ [l]) = jStep (jFold ls) l := by
  unfold jFold
  rw [List.foldl_append]; rfl
theorem jFold_len {B : Nat} (ls : List (List Nd)) (h : ∀ l ∈ ls, l.length ≤ B) : ∀ k, k ≤ ls.length → (jFold (ls.take k)).1.length ≤ k * B ∧ (jFold (ls.take k)).2.length = k ∧ ∀ z ∈ (jFold (ls.take k)).2, -1 ≤ z ∧ z ≤ k * B := by
  intro k
  induction k with
  | zero => intro _; simp [jFold]
  | succ k ih =>
    intro hk
    obtain ⟨i1, i2, i3⟩ := ih (by omega)
    rw [List.take_succ_eq_append_getElem (by omega), jFold_snoc]
    have hl := h _ (List.getElem_mem (show k < ls.length by omega))
    have e : (k + 1) * B = k * B + B := Nat.succ_mul k B
    unfold jStep
    refine ⟨by simp only [List.length_append, List.length_map]; omega, by simp only [List.length_append, List.length_singleton]; omega, fun z hz => ?_⟩
    rcases List.mem_append.1 hz with hz | hz
    · have := i3 z hz
      have e2 : ((k + 1 : Nat) : Int) * (B : Int) = (k : Int) * (B : Int) + (B : Int) := by rw [← Int.natCast_mul, e]; simp
      have : (0 : Int) ≤ (B : Int) := by omega
      omega
    · rw [List.mem_singleton.1 hz]
      have e2 : ((k + 1 : Nat) : Int) * (B : Int) = ((k * B + B : Nat) : Int) := by rw [← Int.natCast_mul, e]
      omega
theorem shift_id (l : List Nd) : l.map (shiftNd 0) = l := by
  rw [show (shiftNd 0) = id from funext shift_zero, List.map_id]
theorem jRes_zero (nd : Nd) : jRes nd [] = overL nd [] [] := rfl
theorem jRes_one (nd : Nd) {a : List Nd} (ha : a ≠ []) : jRes nd [a] = overL nd a [] := by
  have e : jFold [a] = (a, [(a.length : Int) - 1]) := by
    unfold jFold jStep
    simp only [List.foldl_cons, List.foldl_nil, List.nil_append, List.length_nil, Nat.zero_add]
    rw [show ((0 : Nat) : Int) = 0 from rfl, shift_id]
  unfold jRes overL
  rw [e, if_neg ha, if_pos rfl]
  simp
theorem jRes_two (nd : Nd) {a b : List Nd} (ha : a ≠ []) (hb : b ≠ []) : jRes nd [a, b] = overL nd a b := by
  have e : jFold [a, b] = (a ++ b.map (shiftNd (a.length : Int)), [(a.length : Int) - 1, ((a.length + b.length : Nat) : Int) - 1]) := by
    unfold jFold jStep
    simp only [List.foldl_cons, List.foldl_nil, List.nil_append, List.length_nil, Nat.zero_add]
    rw [show ((0 : Nat) : Int) = 0 from rfl, shift_id]
    rfl
  unfold jRes overL
  rw [e, if_neg ha, if_neg hb]
  simp
theorem root_range {l : List Nd} {n : Nd} (h : mayL (l ++ [n]) = true) : 1 ≤ n.kind ∧ n.kind ≤ 22 := by
  have := last_range h
  have e : lastKind (l ++ [n]) = n.kind := by unfold lastKind; rw [List.getLast?_concat]; rfl
  rwa [e] at this
theorem kidc_two (k : Int) : kidc k ≤ 2 := kidc_le k
theorem jL_eq (nd : Nd) (ls : List (List Nd)) : jL nd ls = joinL nd ls := by
  have hk := kidc_two nd.kind
  by_cases hr : 1 ≤ nd.kind ∧ nd.kind ≤ 22
  · have ha := kidc_arity hr
    unfold jL joinL
    by_cases hc : kidc nd.kind = ls.length ∧ ls.all mayL = true
    · obtain ⟨h1, h2⟩ := hc
      rw [if_pos (show arity nd.kind = (ls.length : Int) ∧ ls.all mayL = true from ⟨by rw [ha, h1], h2⟩)]
      have key : jRes nd ls = overL nd (ls.headD []) (ls.tail.getLastD []) := by
        have ne : ∀ l ∈ ls, l ≠ [] := fun l hl e => by
          have := may_ne (List.all_eq_true.1 h2 l hl)
          rw [e] at this
          simp at this
        match ls, h1, ne with
        | [], _, _ => exact jRes_zero nd
        | [a], _, ne => exact jRes_one nd (ne a (by simp))
        | [a, b], _, ne => exact jRes_two nd (ne a (by simp)) (ne b (by simp))
        | _ :: _ :: _ :: _, h1, _ => simp at h1; omega
      rw [← key]
      by_cases h3 : mayL (jRes nd ls) = true
      · rw [if_pos ⟨h1, h2, h3⟩, if_pos h3]
      · rw [if_neg (fun h => h3 h.2.2), if_neg h3]
    · rw [if_neg (fun h => hc ⟨h.1, h.2.1⟩), if_neg (fun h => hc ⟨by have := h.1; omega, h.2⟩)]
  · have hj : joinL nd ls = [] := by
      unfold joinL
      rw [if_neg]
      rintro ⟨h1, -⟩
      exact hr (arity_range (by omega))
    rw [hj]
    unfold jL
    rw [if_neg]
    rintro ⟨-, -, h3⟩
    exact hr (root_range (l := (jFold ls).1) (n := { nd with kids := (jFold ls).2 }) h3)
theorem jL_bad {nd : Nd} {ls : List (List Nd)} (h : kidc nd.kind ≠ ls.length ∨ ls.all mayL = false ∨ mayL (jRes nd ls) = false) : jL nd ls = [] := by
  unfold jL
  rw [if_neg]
  rintro ⟨h1, h2, h3⟩
  rcases h with h | h | h
  · exact h h1
  · rw [h] at h2; cases h2
  · rw [h] at h3; cases h3

/-- The row of places has grown. -/
theorem OverAt.place {S : Nat → Prop} {w wr w5 : World} {cs0 : Array Value} {kv v kv' : Value} {ka ks : List Int} {σ : List SNd} {o : Obj} (h : OverAt S w cs0 kv ka v σ wr) (hk : w5.ownsRow (w.heap.size + 1) 3 1 kv' ks.length (ks.map (Value.int .i64)))
    (hg : (wr.alloc o).grownBy w5 kv.ownBlock) (hat : kv'.ownBlock = kv.ownBlock ∨ kv'.ownBlock = some (wr.alloc o).heap.size) : OverAt S w cs0 kv' ks v σ w5 := by
  obtain ⟨h1, h2, hx, hB, hne⟩ := h
  have hba : Below wr.heap.size wr (wr.alloc o) := (Below.refl _ _).alloc (Nat.le_refl _) o
  refine ⟨?_, hk, (hx.below hba hx.lt).grown hg (own_no h2 (Nat.lt_succ_self _)), (hB.alloc hB.size o).grown hg (le_alloc hB.size) (fun q hq => by have := (h2.lt q hq).1; omega), ?_⟩
  · refine (((h1.mono (S' := fun q => Apart S w.heap.size kv q ∧ q < wr.heap.size) fun q hq hp => ⟨hp, hq⟩).below hba).keep hg ?_ ?_).mono ?_
    · cases hv : v.ownBlock with
      | none => exact Or.inl rfl
      | some g =>
        refine Or.inr fun e => ?_
        rcases hne with e6 | e6
        · rw [e6] at e; cases e
        · exact e6 (hv ▸ e ▸ rfl)
    · intro q hq e
      rcases hq.1 with ⟨_, hq⟩ | ⟨_, hq⟩
      · have := (h2.lt q e.symm).1; omega
      · exact hq e
    · rintro q _ ⟨hq, hq2⟩
      rcases hq with hq | ⟨hq, hq3⟩
      · exact Or.inl hq
      · refine Or.inr ⟨hq, fun e => ?_⟩
        rcases hat with e2 | e2
        · rw [e2] at e; exact hq3 e
        · rw [e2] at e; injection e with e; simp at e; omega
  · rcases hat with e2 | e2
    · rw [e2]; exact hne
    · refine Or.inr fun e => ?_
      rw [e2] at e
      have := (h1.1.lt _ e.symm).2
      have h9 : (wr.alloc o).heap.size = wr.heap.size + 1 := by simp
      omega
theorem join_start (w : World) (cs0 : Array Value) : OverAt Any w cs0 (.slice (some ⟨w.heap.size + 2, 0, none⟩) 0 0) [] (.slice (some ⟨w.heap.size + 1, 0, none⟩) 0 0) [] (((w.alloc (.cells cs0 33)).alloc (.cells #[] 33)).alloc (.cells #[] 3)) := by
  have hb : Below w.heap.size w (((w.alloc (.cells cs0 33)).alloc (.cells #[] 33)).alloc (.cells #[] 3)) := (((Below.refl _ _).alloc (Nat.le_refl _) _).alloc (le_alloc (Nat.le_refl _)) _).alloc (le_alloc (le_alloc (Nat.le_refl _))) _
  refine ⟨⟨?_, fun s hs => by simp at hs⟩, ?_, blk_alloc (blk_alloc (new_at w _)), hb, Or.inr (by simp [Value.ownBlock])⟩
  · have := World.ownsRow_made (base := w.heap.size + 1) (e := 33) (size := 5) (w.alloc (.cells cs0 33)) #[] 0 (by simp) (by decide) rfl
    have h2 := World.ownsRow.alloc this (.cells #[] 3)
    show World.ownsRow _ _ _ _ _ 0 []
    simpa using h2
  · have := World.ownsRow_made (base := w.heap.size + 1) (e := 3) (size := 1) ((w.alloc (.cells cs0 33)).alloc (.cells #[] 33)) #[] 0 (by simp) (by decide) rfl
    simpa using this
theorem OverAt.below {S : Nat → Prop} {w wr w1 : World} {cs0 : Array Value} {kv v : Value} {ka : List Int} {σ : List SNd} (h : OverAt S w cs0 kv ka v σ wr) (hb : Below wr.heap.size wr w1) : OverAt S w cs0 kv ka v σ w1 := by
  obtain ⟨h1, h2, hx, hB, hne⟩ := h
  exact ⟨h1.below hb, below_row h2 hb, hx.below hb hx.lt, hB.trans (hb.mono hB.size), hne⟩
theorem OverAt.slices {S : Nat → Prop} {w wr : World} {cs0 : Array Value} {kv v : Value} {ka : List Int} {σ : List SNd} (h : OverAt S w cs0 kv ka v σ wr) : (∃ A c, v = .slice A σ.length c) ∧ (∃ A c, kv = .slice A ka.length c) := by
  obtain ⟨A, c, e, -⟩ := (h.1.mono (S' := Any) fun _ _ _ => trivial).reads (fun _ _ _ => trivial)
  obtain ⟨A', c', e', -⟩ := own_slice h.2.1
  exact ⟨⟨A, c, e⟩, ⟨A', c', e'⟩⟩
end Go.Proofs.Ytmahbocelckmcaa.Tree
