/-
  Tokens in plain lists of bytes: blanks, numbers, the laws' own texts. By an AI agent.
-/
import Derived.Test.YtmahbocelckmcaaLexMath
namespace Go.Proofs.Ytmahbocelckmcaa.Lex

theorem piece_blank {c : UInt8} (r : List UInt8) (h : blank c = true) : piece c r = some (1, none) := by
  unfold piece; rw [if_pos h]
theorem lexAt_blank {c : UInt8} (p : Nat) (r : List UInt8) (h : blank c = true) : lexAt p (c :: r) = lexAt (p + 1) r := by
  rw [lexAt_go p (piece_blank r h)]
  exact before_nil _
theorem lexAt_blanks : ∀ (b : List UInt8) (p : Nat) (r : List UInt8), (∀ c ∈ b, blank c = true) → lexAt p (b ++ r) = lexAt (p + b.length) r
  | [], p, r, _ => rfl
  | c :: b, p, r, h => by
    rw [List.cons_append, lexAt_blank p _ (h c (by simp)), lexAt_blanks b (p + 1) r (fun d hd => h d (by simp [hd]))]
    rw [List.length_cons]
    congr 1
    omega

/-- What a text's beginning says where a piece is followed by a blank, or by nothing. -/
theorem run_stop {words : Bool} : ∀ (t : List UInt8) (r : List UInt8), (∀ c ∈ t, (if words then wordB else digit) c = true) → (∀ c, r.head? = some c → (if words then wordB else digit) c = false) → run words (t ++ r) = t.length
  | [], r, _, h2 => by
    unfold run
    cases r with
    | nil => rfl
    | cons c r => rw [List.nil_append, List.takeWhile_cons_of_neg (by rw [h2 c rfl]; decide)]
  | c :: t, r, h1, h2 => by
    have ih := run_stop t r (fun d hd => h1 d (by simp [hd])) h2
    unfold run at *
    rw [List.cons_append, List.takeWhile_cons_of_pos (h1 c (by simp)), List.length_cons, List.length_cons, ih]

theorem digit_not {c : UInt8} (h : digit c = true) : blank c = false ∧ small c = false := by
  simp only [digit, decide_eq_true_eq] at h
  simp only [blank, small, decide_eq_false_iff_not]
  omega

theorem piece_num {c : UInt8} {t r : List UInt8} (hd : ∀ x ∈ c :: t, digit x = true) (hr : ∀ x, r.head? = some x → digit x = false) (hl : t.length ≤ 3) (hz : c.toNat = 48 → t = []) :
    piece c (t ++ r) = some (t.length + 1, some (2, [], numOf (c :: t))) := by
  have hc := digit_not (hd c (by simp))
  have hrun : run false (c :: (t ++ r)) = t.length + 1 := run_stop (words := false) (c :: t) r hd hr
  unfold piece
  rw [if_neg (by rw [hc.1]; decide), if_neg (by rw [hc.2]; decide), if_pos (hd c (by simp)), hrun, if_neg]
  · have : (c :: (t ++ r)).take (t.length + 1) = c :: t := by
      rw [← List.cons_append]
      exact List.take_left' rfl
    rw [this]
  · rintro (h | ⟨h1, h2⟩)
    · omega
    · rw [hz h1] at h2; simp at h2

theorem piece_long {c : UInt8} {t r : List UInt8} (hd : ∀ x ∈ c :: t, digit x = true) (hl : 4 ≤ t.length ∨ (c.toNat = 48 ∧ 1 ≤ t.length)) : piece c (t ++ r) = none := by
  have hc := digit_not (hd c (by simp))
  have hrun : t.length + 1 ≤ run false (c :: (t ++ r)) := by
    unfold run
    rw [← List.cons_append, show (if false = true then wordB else digit) = digit from rfl, List.takeWhile_append_of_pos hd]
    simp
  unfold piece
  rw [if_neg (by rw [hc.1]; decide), if_neg (by rw [hc.2]; decide), if_pos (hd c (by simp)), if_pos]
  omega

/-- The tokens of the law's own table: their bytes, and what they are. -/
def table : List (List UInt8 × Nat × List UInt8 × Nat) :=
  [([97], 1, [97], 0), ([98, 50], 1, [98, 50], 0), ([111, 110, 99, 101], 1, [111, 110, 99, 101], 0), ([115, 105, 110, 99, 101], 1, [115, 105, 110, 99, 101], 0), ([102, 111, 114, 101], 1, [102, 111, 114, 101], 0),
   ([48], 2, [], 0), ([55], 2, [], 7), ([57, 57, 57, 57], 2, [], 9999), ([45, 62], 3, [45, 62], 0), ([40], 3, [40], 0), ([41], 3, [41], 0), ([91], 3, [91], 0), ([93], 3, [93], 0), ([123], 3, [123], 0), ([125], 3, [125], 0),
   ([44], 3, [44], 0), ([42], 3, [42], 0), ([46], 3, [46], 0), ([63], 3, [63], 0), ([43], 3, [43], 0), ([59], 3, [59], 0), ([33], 3, [33], 0), ([38], 3, [38], 0), ([124], 3, [124], 0), ([120, 95, 121], 1, [120, 95, 121], 0), ([116, 114, 117, 101], 1, [116, 114, 117, 101], 0)]

/-- A token of the table ahead of a blank. -/
theorem table_piece : ∀ e ∈ table, ∀ b ∈ ([32, 10] : List UInt8), ∀ r : List UInt8, ∃ c t, e.1 = c :: t ∧ piece c (t ++ b :: r) = some (t.length + 1, some e.2) := by
  intro e he b hb r
  simp only [table, List.mem_cons, List.not_mem_nil, or_false] at he hb
  rcases he with rfl | rfl | rfl | rfl | rfl | rfl | rfl | rfl | rfl | rfl | rfl | rfl | rfl | rfl | rfl | rfl | rfl | rfl | rfl | rfl | rfl | rfl | rfl | rfl | rfl | rfl <;> rcases hb with rfl | rfl <;> exact ⟨_, _, rfl, rfl⟩

theorem lexAt_table {e : List UInt8 × Nat × List UInt8 × Nat} (he : e ∈ table) {b : UInt8} (hb : b = 32 ∨ b = 10) (p : Nat) (r : List UInt8) :
    lexAt p (e.1 ++ b :: r) = (lexAt (p + e.1.length) (b :: r)).before [⟨e.2.1, e.2.2.1, e.2.2.2, p⟩] := by
  obtain ⟨c, t, h1, h2⟩ := table_piece e he b (by rcases hb with rfl | rfl <;> simp) r
  rw [h1, List.cons_append, lexAt_go p h2]
  have : (c :: (t ++ b :: r)).drop (t.length + 1) = b :: r := by
    rw [← List.cons_append]
    exact List.drop_left' rfl
  rw [this]
  rfl

/-- The tokens that the numbers ns stand for, each one at its place, gaps ahead and behind. -/
def pick (n : Nat) : List UInt8 × Nat × List UInt8 × Nat := table.getD (n % 26) ([97], 1, [97], 0)
theorem pick_mem (n : Nat) : pick n ∈ table := by
  have : n % 26 < table.length := Nat.mod_lt _ (by decide)
  unfold pick
  rw [List.getD_eq_getElem?_getD, List.getElem?_eq_getElem this]
  exact List.getElem_mem this
def textOf : List (List UInt8 × Nat × List UInt8) → List UInt8
  | [] => []
  | (a, n, b) :: r => a ++ ((pick n).1 ++ (b ++ textOf r))
def toksOf : Nat → List (List UInt8 × Nat × List UInt8) → List Tk
  | p, [] => [⟨0, [], 0, p⟩]
  | p, (a, n, b) :: r => ⟨(pick n).2.1, (pick n).2.2.1, (pick n).2.2.2, p + a.length⟩ :: toksOf (p + a.length + (pick n).1.length + b.length) r
theorem lexAt_text : ∀ (l : List (List UInt8 × Nat × List UInt8)) (p : Nat), (∀ x ∈ l, (∀ c ∈ x.1, blank c = true) ∧ (∀ c ∈ x.2.2, blank c = true) ∧ (x.2.2.head? = some 32 ∨ x.2.2.head? = some 10)) →
    lexAt p (textOf l) = .ok (toksOf p l)
  | [], p, _ => rfl
  | (a, n, b) :: r, p, h => by
    obtain ⟨h1, h2, h3⟩ := h (a, n, b) (by simp)
    have ih := lexAt_text r (p + a.length + (pick n).1.length + b.length) (fun x hx => h x (by simp [hx]))
    unfold textOf
    rw [lexAt_blanks a p _ h1]
    cases b with
    | nil => rcases h3 with h3 | h3 <;> cases h3
    | cons d b =>
      have hd : d = 32 ∨ d = 10 := by
        rcases h3 with h3 | h3
        · exact Or.inl (Option.some.inj h3)
        · exact Or.inr (Option.some.inj h3)
      rw [List.cons_append, lexAt_table (pick_mem n) hd, ← List.cons_append, lexAt_blanks (d :: b) _ _ h2, ih]
      rfl

end Go.Proofs.Ytmahbocelckmcaa.Lex
