/-
  Tokens in plain lists of bytes: what each branch of a walk says of the piece that begins. By an AI agent.
-/
import Derived.Test.YtmahbocelckmcaaLexMath3
namespace Go.Proofs.Ytmahbocelckmcaa.Lex

theorem lex_step {L : List UInt8} {p n : Nat} {R : Res} {acc : List Tk} {c : UInt8} {r : List UInt8} {t : Option (Nat × List UInt8 × Nat)} (hd : L.drop p = c :: r) (hR : R = (lexAt p (L.drop p)).before acc) (hp : piece c r = some (n, t)) :
    R = (lexAt (p + n) (L.drop (p + n))).before (acc ++ tokAt p t) := by
  rw [hR, hd, lexAt_go p hp, ← hd, List.drop_drop, before_before]
theorem lex_stop {L : List UInt8} {p : Nat} {R : Res} {acc : List Tk} {c : UInt8} {r : List UInt8} (hd : L.drop p = c :: r) (hR : R = (lexAt p (L.drop p)).before acc) (hp : piece c r = none) : R = .bad p := by
  rw [hR, hd, lexAt_bad p hp]
  rfl
theorem lex_end {L : List UInt8} {p : Nat} {R : Res} {acc : List Tk} (hd : L.drop p = []) (hR : R = (lexAt p (L.drop p)).before acc) : R = .ok (acc ++ [⟨0, [], 0, p⟩]) := by
  rw [hR, hd, lexAt_nil]
  rfl

theorem not_blank {c : UInt8} (h1 : c.toNat ≠ 32) (h2 : c.toNat ≠ 10) : blank c = false := by
  simp only [blank, decide_eq_false_iff_not]; omega
theorem is_blank {c : UInt8} (h : c.toNat = 32 ∨ c.toNat = 10) : blank c = true := by
  simp only [blank, decide_eq_true_eq]; exact h
theorem piece_word {c : UInt8} {r : List UInt8} {n : Nat} (hb : blank c = false) (h : small c = true) (hn : run true (c :: r) = n) :
    (16 < n → piece c r = none) ∧ (n ≤ 16 → piece c r = some (n, some (1, (c :: r).take n, 0))) := by
  unfold piece
  rw [if_neg (by rw [hb]; decide), if_pos h, hn]
  exact ⟨fun h16 => by rw [if_pos h16], fun h16 => by rw [if_neg (by omega)]⟩
theorem piece_digits {c : UInt8} {r : List UInt8} {n : Nat} (hb : blank c = false) (hs : small c = false) (h : digit c = true) (hn : run false (c :: r) = n) :
    ((4 < n ∨ c.toNat = 48 ∧ 1 < n) → piece c r = none) ∧ (¬ (4 < n ∨ c.toNat = 48 ∧ 1 < n) → piece c r = some (n, some (2, [], numOf ((c :: r).take n)))) := by
  unfold piece
  rw [if_neg (by rw [hb]; decide), if_neg (by rw [hs]; decide), if_pos h, hn]
  exact ⟨fun h4 => by rw [if_pos h4], fun h4 => by rw [if_neg h4]⟩
theorem piece_arrow {c d : UInt8} {r : List UInt8} (h : c.toNat = 45) (hd : d.toNat = 62) : piece c (d :: r) = some (2, some (3, [45, 62], 0)) := by
  have hb : blank c = false := not_blank (by omega) (by omega)
  have hs : small c = false := by simp only [small, decide_eq_false_iff_not]; omega
  have hg : digit c = false := by simp only [digit, decide_eq_false_iff_not]; omega
  unfold piece
  rw [if_neg (by rw [hb]; decide), if_neg (by rw [hs]; decide), if_neg (by rw [hg]; decide), if_pos ⟨h, by simp [hd]⟩]
theorem piece_dash {c : UInt8} {r : List UInt8} (h : c.toNat = 45) (hd : ∀ d, r.head? = some d → d.toNat ≠ 62) : piece c r = none := by
  have hb : blank c = false := not_blank (by omega) (by omega)
  have hs : small c = false := by simp only [small, decide_eq_false_iff_not]; omega
  have hg : digit c = false := by simp only [digit, decide_eq_false_iff_not]; omega
  have hi : isSign c = false := by simp only [isSign, decide_eq_false_iff_not, h]; decide
  unfold piece
  rw [if_neg (by rw [hb]; decide), if_neg (by rw [hs]; decide), if_neg (by rw [hg]; decide), if_neg, if_neg (by rw [hi]; decide)]
  rintro ⟨-, h2⟩
  cases hr : r.head? with
  | none => rw [hr] at h2; cases h2
  | some d => rw [hr] at h2; exact hd d hr (Option.some.inj h2)
theorem dash_sign {c : UInt8} (h : c.toNat = 45) : isSign c = false := by simp only [isSign, decide_eq_false_iff_not, h]; decide
theorem piece_sign {c : UInt8} {r : List UInt8} (hb : blank c = false) (hs : small c = false) (hg : digit c = false) (h45 : c.toNat ≠ 45) :
    (isSign c = true → piece c r = some (1, some (3, [c], 0))) ∧ (isSign c = false → piece c r = none) := by
  unfold piece
  rw [if_neg (by rw [hb]; decide), if_neg (by rw [hs]; decide), if_neg (by rw [hg]; decide), if_neg (by omega)]
  exact ⟨fun h => by rw [if_pos h], fun h => by rw [if_neg (by rw [h]; decide)]⟩

/-- The digits that a run has. -/
theorem run_digits : ∀ (bs : List UInt8) (k : Nat), k < run false bs → ∃ d, bs[k]? = some d ∧ digit d = true
  | [], k, h => by simp [run] at h
  | c :: r, k, h => by
    rcases hc : digit c
    · have : run false (c :: r) = 0 := by
        unfold run
        rw [List.takeWhile_cons_of_neg (by simp [hc])]
        rfl
      omega
    · cases k with
      | zero => exact ⟨c, rfl, hc⟩
      | succ k =>
        have e : run false (c :: r) = run false r + 1 := by
          unfold run
          rw [List.takeWhile_cons_of_pos (by simpa using hc)]
          rfl
        obtain ⟨d, h1, h2⟩ := run_digits r k (by omega)
        exact ⟨d, by simpa using h1, h2⟩
theorem numOf_take (bs : List UInt8) (k : Nat) (d : UInt8) (h : bs[k]? = some d) : numOf (bs.take (k + 1)) = 10 * numOf (bs.take k) + (d.toNat - 48) := by
  rw [List.take_add_one, h]
  exact numOf_snoc _ _
theorem numOf_lt : ∀ (k : Nat) (bs : List UInt8), k ≤ run false bs → numOf (bs.take k) < 10 ^ k
  | 0, bs, _ => by rw [List.take_zero]; decide
  | k + 1, bs, h => by
    obtain ⟨d, h1, h2⟩ := run_digits bs k (by omega)
    have ih := numOf_lt k bs (by omega)
    rw [numOf_take bs k d h1]
    simp only [digit, decide_eq_true_eq] at h2
    rw [Nat.pow_succ]
    omega
theorem lexF_len : ∀ (f p : Nat) (bs : List UInt8) (l : List Tk), lexF f p bs = .ok l → l.length ≤ bs.length + 1 := by
  intro f
  induction f with
  | zero =>
    intro p bs l h
    cases bs with
    | nil => simp only [lexF, Res.ok.injEq] at h; rw [← h]; simp
    | cons c r => simp [lexF] at h
  | succ f ih =>
    intro p bs l h
    cases bs with
    | nil => simp only [lexF, Res.ok.injEq] at h; rw [← h]; simp
    | cons c r =>
      simp only [lexF] at h
      cases hp : piece c r with
      | none => rw [hp] at h; cases h
      | some x =>
        obtain ⟨n, t⟩ := x
        rw [hp] at h
        simp only at h
        obtain ⟨h1, h2⟩ := piece_pos hp
        cases hl : lexF f (p + n) ((c :: r).drop n) with
        | bad q => rw [hl] at h; cases h
        | ok m =>
          rw [hl] at h
          have := ih _ _ _ hl
          simp only [Res.before, Res.ok.injEq] at h
          rw [← h]
          have ht : (tokAt p t).length ≤ 1 := by cases t <;> simp [tokAt]
          simp only [List.length_append, List.length_drop, List.length_cons] at this ⊢
          omega
theorem lexS_len (bs : List UInt8) : (lexS bs).1.length ≤ 4000 := by
  unfold lexS
  split
  · simp
  · cases h : lexAt 0 bs with
    | bad p => simp
    | ok l =>
      have := lexF_len _ _ _ _ h
      simp only
      omega
end Go.Proofs.Ytmahbocelckmcaa.Lex
