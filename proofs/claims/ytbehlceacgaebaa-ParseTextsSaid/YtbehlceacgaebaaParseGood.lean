/-
  What Lex tells is good for a reader: words, signs, numbers, one end. By an AI agent.
-/
import Derived.Test.YtbehlceacgaebaaParseSim
namespace Go.Proofs.Ytbehlceacgaebaa.Parse
open Go.Proofs.Ytbehlceacgaebaa.Lex Go.Proofs.Ytbehlceacgaebaa.Tree

def GoodT : List Tk → Prop
  | [] => False
  | t :: r => (TokOk t ∧ t.num ≤ 9999 ∧ t.text.length ≤ 16) ∧ (t.kind = 0 ∧ r = [] ∨ t.kind ≠ 0 ∧ GoodT r)
theorem GoodT.split {ts : List Tk} (h : GoodT ts) : ∃ t r, ts = t :: r ∧ TokOk t ∧ t.num ≤ 9999 ∧ t.text.length ≤ 16 ∧ (t.kind = 0 ∧ r = [] ∨ t.kind ≠ 0 ∧ GoodT r) := by
  cases ts with
  | nil => exact h.elim
  | cons t r => exact ⟨t, r, rfl, h.1.1, h.1.2.1, h.1.2.2, h.2⟩
theorem GoodT.allOk : ∀ {ts : List Tk}, GoodT ts → AllOk ts
  | [], h => h.elim
  | t :: r, h => by
    intro u hu
    rcases List.mem_cons.1 hu with rfl | hu
    · exact h.1.1
    · rcases h.2 with ⟨-, rfl⟩ | ⟨-, h2⟩
      · cases hu
      · exact GoodT.allOk h2 u hu
theorem GoodT.tail {ts : List Tk} (h : GoodT ts) (hk : kindOf ts ≠ 0) : GoodT ts.tail := by
  obtain ⟨t, r, rfl, -, -, -, h1⟩ := h.split
  rcases h1 with ⟨h1, -⟩ | ⟨-, h1⟩
  · exact absurd h1 hk
  · exact h1
theorem GoodT.next {ts : List Tk} (h : GoodT ts) (ht : textOf ts ≠ []) : GoodT ts.tail := h.tail (kind_end h.allOk ht)
theorem GoodT.num {ts : List Tk} (h : GoodT ts) : numAt ts ≤ 9999 := by
  obtain ⟨t, r, rfl, -, h2, -, -⟩ := h.split
  exact h2
theorem GoodT.before : ∀ (l : List Tk) {m : List Tk}, (∀ t ∈ l, TokOk t ∧ t.num ≤ 9999 ∧ t.text.length ≤ 16 ∧ t.kind ≠ 0) → GoodT m → GoodT (l ++ m)
  | [], _, _, h => h
  | t :: l, m, h1, h => by
    obtain ⟨a, b, c, d⟩ := h1 t (by simp)
    exact ⟨⟨a, b, c⟩, Or.inr ⟨d, GoodT.before l (fun u hu => h1 u (by simp [hu])) h⟩⟩

theorem sign_small {c : UInt8} (h : isSign c = true) : small c = false := by
  simp only [isSign, signs, decide_eq_true_eq, List.mem_cons, List.not_mem_nil, or_false] at h
  simp only [small, decide_eq_false_iff_not]
  omega
theorem piece_tok_ok {c : UInt8} {r : List UInt8} {n k v : Nat} {tx : List UInt8} (h : piece c r = some (n, some (k, tx, v))) (p : Nat) : TokOk ⟨k, tx, v, p⟩ ∧ v ≤ 9999 ∧ tx.length ≤ 16 ∧ k ≠ 0 := by
  unfold piece at h
  split at h
  · cases h
  · split at h
    · next hs =>
      split at h
      · cases h
      · next h16 =>
        simp only [Option.some.injEq, Prod.mk.injEq] at h
        obtain ⟨-, rfl, rfl, rfl⟩ := h
        have hp : 1 ≤ run true (c :: r) := run_pos (words := true) (small_word hs)
        obtain ⟨q, hq⟩ : ∃ q, run true (c :: r) = q + 1 := ⟨run true (c :: r) - 1, by omega⟩
        rw [hq] at h16 ⊢
        refine ⟨Or.inr (Or.inl ⟨rfl, c, r.take q, rfl, hs⟩), by omega, ?_, by simp⟩
        rw [List.length_take]
        omega
    · split at h
      · split at h
        · cases h
        · next h4 =>
          simp only [Option.some.injEq, Prod.mk.injEq] at h
          obtain ⟨-, rfl, rfl, rfl⟩ := h
          refine ⟨Or.inr (Or.inr ⟨Or.inl rfl, rfl⟩), ?_, by simp, by simp⟩
          have := numOf_lt (run false (c :: r)) (c :: r) (Nat.le_refl _)
          have h5 : 10 ^ run false (c :: r) ≤ 10 ^ 4 := Nat.pow_le_pow_right (by omega) (by omega)
          have h6 : (10 : Nat) ^ 4 = 10000 := by decide
          omega
      · split at h
        · simp only [Option.some.injEq, Prod.mk.injEq] at h
          obtain ⟨-, rfl, rfl, rfl⟩ := h
          exact ⟨Or.inl ⟨rfl, 45, [62], rfl, by decide⟩, by omega, by simp, by simp⟩
        · split at h
          · next hs =>
            simp only [Option.some.injEq, Prod.mk.injEq] at h
            obtain ⟨-, rfl, rfl, rfl⟩ := h
            exact ⟨Or.inl ⟨rfl, c, [], rfl, sign_small hs⟩, by omega, by simp, by simp⟩
          · cases h
theorem lexF_good : ∀ (f p : Nat) (bs : List UInt8) (l : List Tk), lexF f p bs = .ok l → GoodT l := by
  intro f
  have he : ∀ p, GoodT [⟨0, [], 0, p⟩] := fun p => ⟨⟨Or.inr (Or.inr ⟨Or.inr rfl, rfl⟩), Nat.zero_le _, Nat.zero_le _⟩, Or.inl ⟨rfl, rfl⟩⟩
  induction f with
  | zero =>
    intro p bs l h
    cases bs with
    | nil => simp only [lexF, Res.ok.injEq] at h; rw [← h]; exact he p
    | cons c r => simp [lexF] at h
  | succ f ih =>
    intro p bs l h
    cases bs with
    | nil => simp only [lexF, Res.ok.injEq] at h; rw [← h]; exact he p
    | cons c r =>
      simp only [lexF] at h
      cases hp : piece c r with
      | none => rw [hp] at h; cases h
      | some x =>
        obtain ⟨n, t⟩ := x
        rw [hp] at h
        simp only at h
        cases hl : lexF f (p + n) ((c :: r).drop n) with
        | bad q => rw [hl] at h; cases h
        | ok m =>
          rw [hl] at h
          have hm := ih _ _ _ hl
          simp only [Res.before, Res.ok.injEq] at h
          rw [← h]
          refine GoodT.before _ (fun u hu => ?_) hm
          cases t with
          | none => cases hu
          | some y =>
            obtain ⟨k, tx, v⟩ := y
            rw [List.mem_singleton.1 hu]
            exact piece_tok_ok hp p
theorem lexS_good {bs : List UInt8} (h : (lexS bs).2.2 = 0) : GoodT (lexS bs).1 ∧ (lexS bs).1.length ≤ 2001 := by
  unfold lexS at h ⊢
  split at h
  · cases h
  · next hn =>
    rw [if_neg hn]
    cases hl : lexAt 0 bs with
    | bad p => rw [hl] at h; cases h
    | ok l => exact ⟨lexF_good _ _ _ _ hl, by have := lexF_len _ _ _ _ hl; show l.length ≤ 2001; omega⟩
end Go.Proofs.Ytbehlceacgaebaa.Parse
