/-
  Tokens in plain lists of bytes: a number as it is written; one word, blanks alone. By an AI agent.
-/
import Derived.Test.YtmahbocelckmcaaLexMath2
import Derived.Lib.ItoaNum
namespace Go.Proofs.Ytmahbocelckmcaa.Lex

theorem dig_toNat {k : Nat} (h : k < 10) : (UInt8.ofNat (48 + k)).toNat = 48 + k := by
  rw [UInt8.toNat_ofNat']
  omega
theorem numOf_snoc (l : List UInt8) (d : UInt8) : numOf (l ++ [d]) = 10 * numOf l + (d.toNat - 48) := by
  unfold numOf
  rw [List.foldl_append]
  rfl
theorem dec_split : ∀ (k u : Nat), u < 10 ^ (k + 1) → ∃ c t, Go.Lib.decDigits u = c :: t ∧ (∀ x ∈ c :: t, digit x = true) ∧ numOf (c :: t) = u ∧ (c.toNat = 48 → t = []) ∧ t.length ≤ k := by
  intro k
  induction k with
  | zero =>
    intro u hu
    have h : u < 10 := by omega
    refine ⟨_, _, Go.Lib.decDigits_one h, ?_, ?_, fun _ => rfl, Nat.le_refl _⟩
    · intro x hx
      rw [List.mem_singleton.1 hx]
      simp only [digit, decide_eq_true_eq, dig_toNat h]
      omega
    · show 10 * 0 + ((UInt8.ofNat (48 + u)).toNat - 48) = u
      rw [dig_toNat h]
      omega
  | succ k ih =>
    intro u hu
    by_cases h : u < 10
    · obtain ⟨c, t, h1, h2, h3, h4, h5⟩ := dec_small h
      exact ⟨c, t, h1, h2, h3, h4, by omega⟩
    · have hu' : u / 10 < 10 ^ (k + 1) := by
        rw [Nat.pow_succ] at hu
        omega
      obtain ⟨c, t, h1, h2, h3, h4, h5⟩ := ih (u / 10) hu'
      have hd : u % 10 < 10 := Nat.mod_lt _ (by decide)
      refine ⟨c, t ++ [UInt8.ofNat (48 + u % 10)], ?_, ?_, ?_, ?_, ?_⟩
      · rw [Go.Lib.decDigits, dif_neg h, h1]
        rfl
      · intro x hx
        rw [← List.cons_append] at hx
        rcases List.mem_append.1 hx with hx | hx
        · exact h2 x hx
        · rw [List.mem_singleton.1 hx]
          simp only [digit, decide_eq_true_eq, dig_toNat hd]
          omega
      · rw [← List.cons_append, numOf_snoc, h3, dig_toNat hd]
        omega
      · intro hc
        have ht := h4 hc
        subst ht
        exfalso
        have : numOf [c] = u / 10 := h3
        have e : numOf [c] = 10 * 0 + (c.toNat - 48) := rfl
        omega
      · rw [List.length_append]
        simp only [List.length_cons, List.length_nil]
        omega
where
  dec_small {u k : Nat} (h : u < 10) : ∃ c t, Go.Lib.decDigits u = c :: t ∧ (∀ x ∈ c :: t, digit x = true) ∧ numOf (c :: t) = u ∧ (c.toNat = 48 → t = []) ∧ t.length ≤ k + 1 := by
    refine ⟨_, _, Go.Lib.decDigits_one h, ?_, ?_, fun _ => rfl, by simp⟩
    · intro x hx
      rw [List.mem_singleton.1 hx]
      simp only [digit, decide_eq_true_eq, dig_toNat h]
      omega
    · show 10 * 0 + ((UInt8.ofNat (48 + u)).toNat - 48) = u
      rw [dig_toNat h]
      omega

/-- Blanks, then a number of one to four digits; a nought ahead of it; four digits more ahead of it. -/
theorem lex_number {v : Nat} (hv : v < 10000) {pad : List UInt8} (hp : ∀ c ∈ pad, blank c = true) (hl : pad.length ≤ 9) :
    lexS (pad ++ Go.Lib.decDigits v) = ([⟨2, [], v, pad.length⟩, ⟨0, [], 0, pad.length + (Go.Lib.decDigits v).length⟩], 0, 0) ∧
    lexS (pad ++ (48 :: Go.Lib.decDigits v)) = ([], pad.length, 2) ∧ lexS (pad ++ (49 :: 50 :: 51 :: 52 :: Go.Lib.decDigits v)) = ([], pad.length, 2) := by
  obtain ⟨c, t, h1, h2, h3, h4, h5⟩ := dec_split 3 v hv
  rw [h1]
  refine ⟨?_, ?_, ?_⟩
  · unfold lexS
    rw [if_neg (by simp only [List.length_append, List.length_cons]; omega), lexAt_blanks pad 0 _ hp]
    have hp := piece_num (r := []) h2 (fun x hx => by cases hx) h5 h4
    rw [List.append_nil] at hp
    rw [lexAt_go _ hp, List.drop_eq_nil_of_le (by simp), lexAt_nil, h3]
    simp [Res.before, tokAt]
  · unfold lexS
    rw [if_neg (by simp only [List.length_append, List.length_cons]; omega), lexAt_blanks pad 0 _ hp]
    have hq := piece_long (c := 48) (t := c :: t) (r := []) (fun x hx => by
      rcases List.mem_cons.1 hx with rfl | hx
      · decide
      · exact h2 x hx) (Or.inr ⟨rfl, by simp⟩)
    rw [List.append_nil] at hq
    rw [lexAt_bad _ hq]
    simp
  · unfold lexS
    rw [if_neg (by simp only [List.length_append, List.length_cons]; omega), lexAt_blanks pad 0 _ hp]
    have hq := piece_long (c := 49) (t := 50 :: 51 :: 52 :: c :: t) (r := []) (fun x hx => by
      simp only [List.mem_cons] at hx
      rcases hx with rfl | rfl | rfl | rfl | rfl | hx
      · decide
      · decide
      · decide
      · decide
      · exact h2 x (by simp)
      · exact h2 x (by simp [hx])) (Or.inl (by simp))
    rw [List.append_nil] at hq
    rw [lexAt_bad _ hq]
    simp

/-- Blanks alone. -/
theorem lex_blanks {s : List UInt8} (h : ∀ c ∈ s, blank c = true) : lexS s = if 2000 < s.length then ([], 0, 4) else ([⟨0, [], 0, s.length⟩], 0, 0) := by
  unfold lexS
  split
  · rfl
  · have := lexAt_blanks s 0 [] h
    rw [List.append_nil] at this
    rw [this, lexAt_nil]
    simp

theorem res_len : ∀ r ∈ reserved, r.length ≤ 5 := by decide

/-- Small letters alone, 12 of them or more. -/
theorem lex_letters {s : List UInt8} (h : ∀ c ∈ s, small c = true) (hl : 12 ≤ s.length) (hm : s.length ≤ 2000) :
    (s.length ≤ 16 → lexS s = ([⟨1, s, 0, 0⟩, ⟨0, [], 0, s.length⟩], 0, 0) ∧ nameS s = true) ∧ (16 < s.length → lexS s = ([], 0, 2) ∧ nameS s = false) := by
  cases s with
  | nil => simp at hl
  | cons c r =>
    have hrun : run true (c :: r) = r.length + 1 := by
      have := run_stop (words := true) (c :: r) [] (fun x hx => small_word (h x hx)) (fun x hx => by cases hx)
      rw [List.append_nil] at this
      exact this
    have hs := h c (by simp)
    simp only [List.length_cons] at hl hm ⊢
    refine ⟨fun h16 => ?_, fun h16 => ?_⟩
    · have hn : nameS (c :: r) = true := by
        have hnot : c :: r ∉ reserved := fun hm => by
          have := res_len _ hm
          simp only [List.length_cons] at this
          omega
        show (decide (r.length + 1 ≤ 16) && small c && decide (run true (c :: r) = r.length + 1) && !(decide (c :: r ∈ reserved))) = true
        rw [decide_eq_true h16, hs, decide_eq_true hrun, decide_eq_false hnot]
        rfl
      exact ⟨name_lex hn, hn⟩
    · have hb : blank c = false := by
        simp only [small, decide_eq_true_eq] at hs
        simp only [blank, decide_eq_false_iff_not]
        omega
      have hp : piece c r = none := by
        unfold piece
        rw [if_neg (by rw [hb]; decide), if_pos hs, hrun, if_pos (by omega)]
      refine ⟨?_, ?_⟩
      · unfold lexS
        rw [if_neg (by simp only [List.length_cons]; omega), lexAt_bad _ hp]
      · simp only [nameS]
        rw [decide_eq_false (by omega)]
        rfl
end Go.Proofs.Ytmahbocelckmcaa.Lex
