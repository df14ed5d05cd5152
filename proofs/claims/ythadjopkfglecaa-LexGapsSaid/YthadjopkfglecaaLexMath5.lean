/-
  Tokens in plain lists of bytes: the law's two texts, one with single blanks, one with wider gaps. By an AI agent.
-/
import Derived.Test.YthadjopkfglecaaLexMath4
namespace Go.Proofs.Ythadjopkfglecaa.Lex

abbrev Ent := List UInt8 × Nat × List UInt8
theorem textOf_snoc : ∀ (l : List Ent) (x : Ent), textOf (l ++ [x]) = textOf l ++ (x.1 ++ ((pick x.2.1).1 ++ x.2.2))
  | [], (a, n, b) => by simp [textOf]
  | (a, n, b) :: l, x => by
    rw [List.cons_append]
    simp only [textOf]
    rw [textOf_snoc l x]
    simp only [List.append_assoc]
theorem toksOf_len : ∀ (l : List Ent) (p : Nat), (toksOf p l).length = l.length + 1
  | [], p => rfl
  | (a, n, b) :: l, p => by simp only [toksOf, List.length_cons, toksOf_len l]
theorem toksOf_at : ∀ (l : List Ent) (p i : Nat) (x : Ent), l[i]? = some x → (toksOf p l)[i]? = some ⟨(pick x.2.1).2.1, (pick x.2.1).2.2.1, (pick x.2.1).2.2.2, p + (textOf (l.take i)).length + x.1.length⟩
  | [], p, i, x, h => by simp at h
  | (a, n, b) :: l, p, 0, x, h => by
    simp only [List.getElem?_cons_zero, Option.some.injEq] at h
    subst h
    simp [toksOf, textOf]
  | (a, n, b) :: l, p, i + 1, x, h => by
    have ih := toksOf_at l (p + a.length + (pick n).1.length + b.length) i x (by simpa using h)
    simp only [toksOf, List.getElem?_cons_succ, ih, List.take_succ_cons, textOf, List.length_append]
    congr 2
    omega
theorem toksOf_end : ∀ (l : List Ent) (p : Nat), (toksOf p l)[l.length]? = some ⟨0, [], 0, p + (textOf l).length⟩
  | [], p => by simp [toksOf, textOf]
  | (a, n, b) :: l, p => by
    have ih := toksOf_end l (p + a.length + (pick n).1.length + b.length)
    simp only [toksOf, List.length_cons, List.getElem?_cons_succ, ih, textOf, List.length_append]
    congr 2
    omega

theorem pick_facts (n : Nat) : 1 ≤ (pick n).1.length ∧ (pick n).1.length ≤ 5 ∧ (pick n).2.1 ≠ 0 := by
  have h : ∀ e ∈ table, 1 ≤ e.1.length ∧ e.1.length ≤ 5 ∧ e.2.1 ≠ 0 := by decide
  exact h _ (pick_mem n)

/-- The gaps. -/
def gapT : List (List UInt8) := [[32], [10], [32, 32], [32, 10, 32], [10, 10]]
def gapOf (g : Nat) : List UInt8 := gapT.getD (g % 5) [32]
theorem gap_facts (g : Nat) : 1 ≤ (gapOf g).length ∧ (gapOf g).length ≤ 3 ∧ (∀ c ∈ gapOf g, blank c = true) ∧ ((gapOf g).head? = some 32 ∨ (gapOf g).head? = some 10) := by
  have h : ∀ e ∈ gapT, 1 ≤ e.length ∧ e.length ≤ 3 ∧ (∀ c ∈ e, blank c = true) ∧ (e.head? = some 32 ∨ e.head? = some 10) := by decide
  have hg : g % 5 < gapT.length := Nat.mod_lt _ (by decide)
  unfold gapOf
  rw [List.getD_eq_getElem?_getD, List.getElem?_eq_getElem hg]
  exact h _ (List.getElem_mem hg)

section
variable (nn : Nat → Nat) (gp : Nat → List UInt8)
def list1 (i : Nat) : List Ent := (List.range i).map fun j => ([], nn j, [32])
def list2 (i : Nat) : List Ent := (List.range i).map fun j => (gp j, nn j, gp j)
def text1 (i : Nat) : List UInt8 := textOf (list1 nn i)
def text2 (i : Nat) : List UInt8 := textOf (list2 nn gp i)
theorem text1_snoc (i : Nat) : text1 nn (i + 1) = text1 nn i ++ ((pick (nn i)).1 ++ [32]) := by
  unfold text1 list1
  rw [List.range_succ, List.map_append, List.map_singleton, textOf_snoc]
  rfl
theorem text2_snoc (i : Nat) : text2 nn gp (i + 1) = text2 nn gp i ++ (gp i ++ (pick (nn i)).1 ++ gp i) := by
  unfold text2 list2
  rw [List.range_succ, List.map_append, List.map_singleton, textOf_snoc, List.append_assoc (gp i)]
theorem text1_len (i : Nat) : (text1 nn i).length ≤ 6 * i := by
  induction i with
  | zero => simp [text1, list1, textOf]
  | succ i ih =>
    rw [text1_snoc]
    have := pick_facts (nn i)
    simp only [List.length_append, List.length_singleton]
    omega
theorem text2_len (hg : ∀ j, (gp j).length ≤ 3) (i : Nat) : (text2 nn gp i).length ≤ 11 * i := by
  induction i with
  | zero => simp [text2, list2, textOf]
  | succ i ih =>
    rw [text2_snoc]
    have := pick_facts (nn i)
    have := hg i
    simp only [List.length_append]
    omega
theorem text_le (hg : ∀ j, 1 ≤ (gp j).length) (i : Nat) : (text1 nn i).length ≤ (text2 nn gp i).length := by
  induction i with
  | zero => simp [text1, list1, text2, list2, textOf]
  | succ i ih =>
    rw [text1_snoc, text2_snoc]
    have := hg i
    simp only [List.length_append, List.length_singleton]
    omega
theorem text1_mono (i k : Nat) (h : i ≤ k) : ∃ r, text1 nn k = text1 nn i ++ r := by
  induction k with
  | zero =>
    have : i = 0 := by omega
    subst this
    exact ⟨[], by simp⟩
  | succ k ih =>
    by_cases he : i = k + 1
    · subst he; exact ⟨[], by simp⟩
    · obtain ⟨r, hr⟩ := ih (by omega)
      exact ⟨r ++ ((pick (nn k)).1 ++ [32]), by rw [text1_snoc, hr, List.append_assoc]⟩
/-- The token's own bytes, where it stands. -/
theorem text1_part (i k : Nat) (h : i < k) : ((text1 nn k).drop (text1 nn i).length).take (pick (nn i)).1.length = (pick (nn i)).1 := by
  obtain ⟨r, hr⟩ := text1_mono nn (i + 1) k h
  rw [hr, text1_snoc, List.append_assoc, List.drop_left', List.append_assoc]
  · exact List.take_left' rfl
  · rfl

/-- What Lex tells of each of the two. -/
theorem lex1 (n : Nat) (hn : n ≤ 60) : ∃ K, lexS (text1 nn n) = (K, 0, 0) ∧ K.length = n + 1 ∧ (∀ i, i < n → K[i]? = some ⟨(pick (nn i)).2.1, (pick (nn i)).2.2.1, (pick (nn i)).2.2.2, (text1 nn i).length⟩) ∧ K[n]? = some ⟨0, [], 0, (text1 nn n).length⟩ := by
  refine ⟨toksOf 0 (list1 nn n), ?_, by rw [toksOf_len]; simp [list1], fun i hi => ?_, ?_⟩
  · unfold lexS
    have hl := text1_len nn n
    rw [if_neg (by omega), text1, lexAt_text]
    intro x hx
    obtain ⟨j, -, rfl⟩ := List.mem_map.1 hx
    refine ⟨by simp, by simp [blank], Or.inl rfl⟩
  · have := toksOf_at (list1 nn n) 0 i ([], nn i, [32]) (by simp [list1, hi])
    rw [this]
    have e : (list1 nn n).take i = list1 nn i := by
      unfold list1
      rw [← List.map_take, List.take_range, Nat.min_eq_left (by omega)]
    rw [e]
    simp [text1]
  · have := toksOf_end (list1 nn n) 0
    have e : (list1 nn n).length = n := by simp [list1]
    rw [e] at this
    rw [this]
    simp [text1]
theorem lex2 (n : Nat) (hn : n ≤ 60) (hg : ∀ j, 1 ≤ (gp j).length ∧ (gp j).length ≤ 3 ∧ (∀ c ∈ gp j, blank c = true) ∧ ((gp j).head? = some 32 ∨ (gp j).head? = some 10)) :
    ∃ K, lexS (text2 nn gp n) = (K, 0, 0) ∧ K.length = n + 1 ∧ (∀ i, i < n → K[i]? = some ⟨(pick (nn i)).2.1, (pick (nn i)).2.2.1, (pick (nn i)).2.2.2, (text2 nn gp i).length + (gp i).length⟩) ∧ K[n]? = some ⟨0, [], 0, (text2 nn gp n).length⟩ := by
  refine ⟨toksOf 0 (list2 nn gp n), ?_, by rw [toksOf_len]; simp [list2], fun i hi => ?_, ?_⟩
  · unfold lexS
    have hl := text2_len nn gp (fun j => (hg j).2.1) n
    rw [if_neg (by omega), text2, lexAt_text]
    intro x hx
    obtain ⟨j, -, rfl⟩ := List.mem_map.1 hx
    exact ⟨(hg j).2.2.1, (hg j).2.2.1, (hg j).2.2.2⟩
  · have := toksOf_at (list2 nn gp n) 0 i (gp i, nn i, gp i) (by simp [list2, hi])
    rw [this]
    have e : (list2 nn gp n).take i = list2 nn gp i := by
      unfold list2
      rw [← List.map_take, List.take_range, Nat.min_eq_left (by omega)]
    rw [e]
    simp [text2]
  · have := toksOf_end (list2 nn gp n) 0
    have e : (list2 nn gp n).length = n := by simp [list2]
    rw [e] at this
    rw [this]
    simp [text2]
end
end Go.Proofs.Ythadjopkfglecaa.Lex
