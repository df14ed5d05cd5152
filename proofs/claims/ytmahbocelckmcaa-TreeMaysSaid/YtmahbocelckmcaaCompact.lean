/-
  Sorted and compacted is sorted without doubles, whichever way it was collected. By an AI agent.
-/
import Derived.Test.YtmahbocelckmcaaTreeNames
import Derived.Lib.RowBridge
namespace Go.Proofs.Ytmahbocelckmcaa.Tree
open Go.RowKit Go.Lib

def strLe (x y : List UInt8) : Bool := decide (x ≤ y)
theorem strLe_trans (a b c : List UInt8) (h1 : strLe a b = true) (h2 : strLe b c = true) : strLe a c = true := by
  simp only [strLe, decide_eq_true_eq] at *; exact List.le_trans h1 h2
theorem strLe_total (a b : List UInt8) : (strLe a b || strLe b a) = true := by
  simp only [strLe, Bool.or_eq_true, decide_eq_true_eq]; exact List.le_total a b
theorem strLe_anti {a b : List UInt8} (h1 : strLe a b = true) (h2 : strLe b a = true) : a = b := by
  simp only [strLe, decide_eq_true_eq] at *; exact List.le_antisymm h1 h2
/-- What compact leaves of the first m of a sorted row. -/
theorem compact_upto (d : Array (List UInt8)) (hs : ∀ i j, i < j → j < d.size → strLe d[i]! d[j]! = true) : ∀ m, m ≤ d.size → (∀ x, x ∈ compactUpTo d m ↔ ∃ j, j < m ∧ d[j]! = x) ∧ (compactUpTo d m).Nodup ∧ (compactUpTo d m).Pairwise (fun x y => strLe x y = true) := by
  intro m
  induction m with
  | zero => intro _; refine ⟨fun x => ?_, ?_, ?_⟩ <;> simp [compactUpTo]
  | succ m ih =>
    intro hm
    obtain ⟨h1, h2, h3⟩ := ih (by omega)
    rw [compactUpTo_succ]
    have hle : ∀ x ∈ compactUpTo d m, strLe x d[m]! = true := fun x hx => by
      obtain ⟨j, hj, rfl⟩ := (h1 x).1 hx
      exact hs j m hj (by omega)
    by_cases hk : keeps d m = true
    · rw [if_pos hk]
      have hnew : d[m]! ∉ compactUpTo d m := fun hx => by
        obtain ⟨j, hj, e⟩ := (h1 _).1 hx
        have hk' : m = 0 ∨ d[m]! ≠ d[m - 1]! := of_decide_eq_true hk
        rcases hk' with h | h
        · omega
        · have e1 : strLe d[m - 1]! d[m]! = true := hs (m - 1) m (by omega) (by omega)
          have e2 : strLe d[m]! d[m - 1]! = true := by
            by_cases hj' : j = m - 1
            · subst hj'; rw [← e]; have := strLe_total d[m - 1]! d[m - 1]!; simpa using this
            · rw [← e]; exact hs j (m - 1) (by omega) (by omega)
          exact h (strLe_anti e2 e1)
      refine ⟨fun x => ?_, ?_, ?_⟩
      · rw [List.mem_append, h1, List.mem_singleton]
        constructor
        · rintro (⟨j, hj, e⟩ | e)
          · exact ⟨j, by omega, e⟩
          · exact ⟨m, by omega, e.symm⟩
        · rintro ⟨j, hj, e⟩
          by_cases hjm : j = m
          · subst hjm; exact Or.inr e.symm
          · exact Or.inl ⟨j, by omega, e⟩
      · rw [List.nodup_append]
        refine ⟨h2, by simp, fun a ha b hb e => ?_⟩
        rw [List.mem_singleton.1 hb] at e
        rw [e] at ha
        exact hnew ha
      · rw [List.pairwise_append]
        exact ⟨h3, by simp, fun a ha b hb => by rw [List.mem_singleton.1 hb]; exact hle a ha⟩
    · rw [if_neg hk, List.append_nil]
      have hm0 : ¬ (m = 0 ∨ d[m]! ≠ d[m - 1]!) := fun h => hk (decide_eq_true h)
      have hpos : m ≠ 0 := fun h => hm0 (Or.inl h)
      have heq : d[m]! = d[m - 1]! := by
        by_cases h : d[m]! = d[m - 1]!
        · exact h
        · exact absurd (Or.inr h) hm0
      refine ⟨fun x => ?_, h2, h3⟩
      rw [h1]
      constructor
      · rintro ⟨j, hj, e⟩; exact ⟨j, by omega, e⟩
      · rintro ⟨j, hj, e⟩
        by_cases hjm : j = m
        · subst hjm; exact ⟨j - 1, by omega, by rw [← heq]; exact e⟩
        · exact ⟨j, by omega, e⟩
theorem compact_sorted {zs : List (List UInt8)} (h : zs.Pairwise (fun x y => strLe x y = true)) : (∀ x, x ∈ compact zs ↔ x ∈ zs) ∧ (compact zs).Nodup ∧ (compact zs).Pairwise (fun x y => strLe x y = true) := by
  have hat : ∀ j, j < zs.length → zs.toArray[j]! = zs[j]?.getD default := fun j hj => by simp [hj]
  obtain ⟨h1, h2, h3⟩ := compact_upto zs.toArray (fun i j hij hj => by
    have hj' : j < zs.length := by simpa using hj
    rw [hat i (by omega), hat j hj', List.getElem?_eq_getElem (by omega), List.getElem?_eq_getElem hj']
    exact (List.pairwise_iff_getElem.1 h) i j (by omega) hj' hij) zs.length (by simp)
  refine ⟨fun x => ?_, h2, h3⟩
  show x ∈ compactUpTo zs.toArray zs.length ↔ _
  rw [h1]
  constructor
  · rintro ⟨j, hj, rfl⟩
    rw [hat j hj, List.getElem?_eq_getElem hj]
    exact List.getElem_mem hj
  · intro hx
    obtain ⟨j, hj, rfl⟩ := List.getElem_of_mem hx
    exact ⟨j, hj, by rw [hat j hj, List.getElem?_eq_getElem hj]; rfl⟩
/-- All names, one behind the other. -/
def allNames (l : List Nd) : List (List UInt8) := (l.filter fun n => n.kind == 3).map fun n => n.name.data.toList
theorem names_spec (l : List Nd) : (∀ x, x ∈ propNames l ↔ ∃ n ∈ l, n.kind = 3 ∧ n.name.data.toList = x) ∧ (propNames l).Nodup := by
  have key : ∀ (l : List Nd) (out : List (List UInt8)), out.Nodup → (∀ x, x ∈ l.foldl nameNext out ↔ x ∈ out ∨ ∃ n ∈ l, n.kind = 3 ∧ n.name.data.toList = x) ∧ (l.foldl nameNext out).Nodup := by
    intro l
    induction l with
    | nil => intro out h; refine ⟨fun x => ?_, h⟩; simp
    | cons n l ih =>
      intro out h
      rw [List.foldl_cons]
      by_cases hc : n.kind = 3 ∧ n.name.data.toList ∉ out
      · have e : nameNext out n = out ++ [n.name.data.toList] := by unfold nameNext; rw [if_pos hc]
        rw [e]
        have hn : (out ++ [n.name.data.toList]).Nodup := by
          rw [List.nodup_append]
          refine ⟨h, by simp, fun a ha b hb e => ?_⟩
          rw [List.mem_singleton.1 hb] at e
          rw [e] at ha
          exact hc.2 ha
        obtain ⟨i1, i2⟩ := ih _ hn
        refine ⟨fun x => ?_, i2⟩
        rw [i1, List.mem_append, List.mem_singleton]
        constructor
        · rintro ((h1 | h1) | ⟨m, hm, h2⟩)
          · exact Or.inl h1
          · exact Or.inr ⟨n, List.mem_cons_self, hc.1, h1.symm⟩
          · exact Or.inr ⟨m, List.mem_cons_of_mem _ hm, h2⟩
        · rintro (h1 | ⟨m, hm, h2⟩)
          · exact Or.inl (Or.inl h1)
          · rcases List.mem_cons.1 hm with rfl | hm
            · exact Or.inl (Or.inr h2.2.symm)
            · exact Or.inr ⟨m, hm, h2⟩
      · have e : nameNext out n = out := by unfold nameNext; rw [if_neg hc]
        rw [e]
        obtain ⟨i1, i2⟩ := ih _ h
        refine ⟨fun x => ?_, i2⟩
        rw [i1]
        constructor
        · rintro (h1 | ⟨m, hm, h2⟩)
          · exact Or.inl h1
          · exact Or.inr ⟨m, List.mem_cons_of_mem _ hm, h2⟩
        · rintro (h1 | ⟨m, hm, h2⟩)
          · exact Or.inl h1
          · rcases List.mem_cons.1 hm with rfl | hm
            · by_cases hin : m.name.data.toList ∈ out
              · exact Or.inl (h2.2 ▸ hin)
              · exact absurd ⟨h2.1, hin⟩ hc
            · exact Or.inr ⟨m, hm, h2⟩
  obtain ⟨k1, k2⟩ := key l [] (by simp)
  refine ⟨fun x => ?_, k2⟩
  have := k1 x
  simpa [propNames] using this
theorem mem_allNames (l : List Nd) (x : List UInt8) : x ∈ allNames l ↔ ∃ n ∈ l, n.kind = 3 ∧ n.name.data.toList = x := by
  unfold allNames
  simp only [List.mem_map, List.mem_filter, beq_iff_eq]
  constructor
  · rintro ⟨n, ⟨h1, h2⟩, h3⟩; exact ⟨n, h1, h2, h3⟩
  · rintro ⟨n, h1, h2, h3⟩; exact ⟨n, ⟨h1, h2⟩, h3⟩
/-- All names, sorted and compacted, are the names. -/
theorem names_compact (l : List Nd) : compact ((allNames l).mergeSort (fun x y => decide (x ≤ y))) = (propNames l).mergeSort (fun x y => decide (x ≤ y)) := by
  have hs : ((allNames l).mergeSort strLe).Pairwise (fun x y => strLe x y = true) := List.pairwise_mergeSort strLe_trans strLe_total _
  obtain ⟨c1, c2, c3⟩ := compact_sorted hs
  obtain ⟨n1, n2⟩ := names_spec l
  show compact ((allNames l).mergeSort strLe) = (propNames l).mergeSort strLe
  refine List.Perm.eq_of_pairwise (le := fun a b => strLe a b = true) (fun a b _ _ h1 h2 => strLe_anti h1 h2) c3 (List.pairwise_mergeSort strLe_trans strLe_total _) ?_
  refine (List.Perm.trans ?_ (List.mergeSort_perm (propNames l) strLe).symm)
  refine (List.perm_ext_iff_of_nodup c2 n2).2 fun x => ?_
  rw [c1, List.mem_mergeSort, mem_allNames, n1]
theorem all_next {l : List Nd} {k : Nat} {n : Nd} (h : l[k]? = some n) : allNames (l.take (k + 1)) = allNames (l.take k) ++ (if n.kind = 3 then [n.name.data.toList] else []) := by
  obtain ⟨hk, rfl⟩ := List.getElem?_eq_some_iff.1 h
  unfold allNames
  rw [List.take_succ_eq_append_getElem hk, List.filter_append, List.map_append]
  congr 1
  by_cases h3 : l[k].kind = 3
  · rw [if_pos h3]; simp [h3]
  · rw [if_neg h3]; simp [h3]
theorem all_len (l : List Nd) (k : Nat) : (allNames (l.take k)).length ≤ k := by
  unfold allNames
  rw [List.length_map]
  have h1 := List.length_filter_le (fun n : Nd => n.kind == 3) (l.take k)
  have h2 : (l.take k).length ≤ k := List.length_take_le _ _
  omega
end Go.Proofs.Ytmahbocelckmcaa.Tree
