/-
  Tokens in plain lists of bytes. By an AI agent.
-/
namespace Go.Proofs.Ytmahbocelckmcaa.Lex

/-- A token: its kind (0: the end, 1: a word, 2: a number, 3: a sign), its text, its number, its place. -/
structure Tk where
  kind : Nat
  text : List UInt8
  num : Nat
  pos : Nat
deriving DecidableEq

def small (c : UInt8) : Bool := decide (97 ≤ c.toNat ∧ c.toNat ≤ 122)
def digit (c : UInt8) : Bool := decide (48 ≤ c.toNat ∧ c.toNat ≤ 57)
def wordB (c : UInt8) : Bool := digit c || small c || decide (c.toNat = 95)
def blank (c : UInt8) : Bool := decide (c.toNat = 32 ∨ c.toNat = 10)
def signs : List Nat := [40, 41, 91, 93, 123, 125, 44, 42, 46, 63, 43, 59, 33, 38, 124]
def isSign (c : UInt8) : Bool := decide (c.toNat ∈ signs)
def run (words : Bool) (bs : List UInt8) : Nat := (bs.takeWhile (if words then wordB else digit)).length
def numOf (bs : List UInt8) : Nat := bs.foldl (fun v c => 10 * v + (c.toNat - 48)) 0

/-- How many bytes the next piece has, and which token it is, if it is none of the blanks; none: there is no valid one. -/
def piece (c : UInt8) (r : List UInt8) : Option (Nat × Option (Nat × List UInt8 × Nat)) :=
  if blank c = true then some (1, none)
  else if small c = true then (if 16 < run true (c :: r) then none else some (run true (c :: r), some (1, (c :: r).take (run true (c :: r)), 0)))
  else if digit c = true then (if 4 < run false (c :: r) ∨ (c.toNat = 48 ∧ 1 < run false (c :: r)) then none else some (run false (c :: r), some (2, [], numOf ((c :: r).take (run false (c :: r))))))
  else if c.toNat = 45 ∧ r.head?.map (·.toNat) = some 62 then some (2, some (3, [45, 62], 0))
  else if isSign c = true then some (1, some (3, [c], 0))
  else none

/-- The tokens, or the place of what is none. -/
inductive Res where
  | ok (l : List Tk)
  | bad (at' : Nat)
deriving DecidableEq

def Res.before (l : List Tk) : Res → Res
  | .ok m => .ok (l ++ m)
  | .bad p => .bad p
theorem before_nil (r : Res) : r.before [] = r := by cases r <;> rfl
theorem before_before (l m : List Tk) (r : Res) : (r.before m).before l = r.before (l ++ m) := by
  cases r with
  | ok k => exact congrArg Res.ok (List.append_assoc l m k).symm
  | bad p => rfl

def tokAt (p : Nat) : Option (Nat × List UInt8 × Nat) → List Tk
  | none => []
  | some (k, t, n) => [⟨k, t, n, p⟩]

def lexF : Nat → Nat → List UInt8 → Res
  | _, p, [] => .ok [⟨0, [], 0, p⟩]
  | 0, p, _ :: _ => .bad p
  | f + 1, p, c :: r => match piece c r with
    | none => .bad p
    | some (n, t) => (lexF f (p + n) ((c :: r).drop n)).before (tokAt p t)

theorem run_le (words : Bool) (bs : List UInt8) : run words bs ≤ bs.length := by
  unfold run
  exact (List.takeWhile_prefix _).length_le

theorem run_pos {words : Bool} {c : UInt8} {r : List UInt8} (h : (if words then wordB else digit) c = true) : 1 ≤ run words (c :: r) := by
  unfold run
  rw [List.takeWhile_cons_of_pos h]
  simp

theorem small_word {c : UInt8} (h : small c = true) : wordB c = true := by simp [wordB, h]
theorem digit_word {c : UInt8} (h : digit c = true) : wordB c = true := by simp [wordB, h]

theorem piece_pos {c : UInt8} {r : List UInt8} {n : Nat} {t : Option (Nat × List UInt8 × Nat)} (h : piece c r = some (n, t)) : 1 ≤ n ∧ n ≤ r.length + 1 := by
  unfold piece at h
  by_cases h1 : blank c = true
  · rw [if_pos h1] at h; cases h; simp
  · rw [if_neg h1] at h
    by_cases h2 : small c = true
    · rw [if_pos h2] at h
      split at h
      · cases h
      · cases h; exact ⟨run_pos (small_word h2), run_le _ _⟩
    · rw [if_neg h2] at h
      by_cases h3 : digit c = true
      · rw [if_pos h3] at h
        split at h
        · cases h
        · cases h; exact ⟨run_pos h3, run_le _ _⟩
      · rw [if_neg h3] at h
        by_cases h4 : c.toNat = 45 ∧ r.head?.map (·.toNat) = some 62
        · rw [if_pos h4] at h
          cases h
          obtain ⟨-, h5⟩ := h4
          cases r with
          | nil => cases h5
          | cons d r => simp
        · rw [if_neg h4] at h
          split at h
          · cases h; simp
          · cases h

/-- Fuel enough is as good as more. -/
theorem lexF_fuel : ∀ (f : Nat) (p : Nat) (bs : List UInt8), bs.length ≤ f → ∀ g, bs.length ≤ g → lexF f p bs = lexF g p bs := by
  intro f
  induction f with
  | zero =>
    intro p bs h g _
    cases bs with
    | nil => simp [lexF]
    | cons c r => simp at h
  | succ f ih =>
    intro p bs h g hg
    cases bs with
    | nil => simp [lexF]
    | cons c r =>
      cases g with
      | zero => simp at hg
      | succ g =>
        simp only [List.length_cons] at h hg
        simp only [lexF]
        cases hs : piece c r with
        | none => rfl
        | some x =>
          obtain ⟨n, t⟩ := x
          obtain ⟨h1, h2⟩ := piece_pos hs
          simp only
          rw [ih (p + n) ((c :: r).drop n) (by simp only [List.length_drop, List.length_cons]; omega) g (by simp only [List.length_drop, List.length_cons]; omega)]

/-- What a list of bytes is, from place p on. -/
def lexAt (p : Nat) (bs : List UInt8) : Res := lexF bs.length p bs
theorem lexAt_nil (p : Nat) : lexAt p [] = .ok [⟨0, [], 0, p⟩] := rfl
theorem lexAt_bad {c : UInt8} {r : List UInt8} (p : Nat) (h : piece c r = none) : lexAt p (c :: r) = .bad p := by
  simp only [lexAt, List.length_cons, lexF, h]
theorem lexAt_go {c : UInt8} {r : List UInt8} {n : Nat} {t : Option (Nat × List UInt8 × Nat)} (p : Nat) (h : piece c r = some (n, t)) :
    lexAt p (c :: r) = (lexAt (p + n) ((c :: r).drop n)).before (tokAt p t) := by
  obtain ⟨h1, h2⟩ := piece_pos h
  simp only [lexAt, List.length_cons, lexF, h]
  rw [lexF_fuel r.length (p + n) ((c :: r).drop n) (by simp only [List.length_drop, List.length_cons]; omega) _ (Nat.le_refl _)]

/-- What a text is: its tokens, the place, the error (4: too many bytes; 2: no valid token). -/
def lexS (bs : List UInt8) : List Tk × Nat × Nat :=
  if 2000 < bs.length then ([], 0, 4) else match lexAt 0 bs with
    | .ok l => (l, 0, 0)
    | .bad p => ([], p, 2)

def reserved : List (List UInt8) := [[116, 114, 117, 101], [102, 97, 108, 115, 101], [112, 114, 101, 118], [110, 101, 120, 116], [111, 110, 99, 101], [104, 105, 115, 116], [115, 111, 109, 101], [97, 108, 108], [115, 105, 110, 99, 101], [117, 110, 116, 105, 108], [98, 97, 99, 107], [102, 111, 114, 101]]
def nameS (bs : List UInt8) : Bool :=
  match bs with
  | [] => false
  | c :: r => decide (r.length + 1 ≤ 16) && small c && decide (run true (c :: r) = r.length + 1) && !(decide (c :: r ∈ reserved))

theorem name_lex {bs : List UInt8} (h : nameS bs = true) : lexS bs = ([⟨1, bs, 0, 0⟩, ⟨0, [], 0, bs.length⟩], 0, 0) := by
  cases bs with
  | nil => cases h
  | cons c r =>
    simp only [nameS, Bool.and_eq_true, decide_eq_true_eq] at h
    obtain ⟨⟨⟨h1, h2⟩, h3⟩, -⟩ := h
    have hb : blank c = false := by
      simp only [small, decide_eq_true_eq] at h2
      simp only [blank, decide_eq_false_iff_not]
      omega
    have hp : piece c r = some (r.length + 1, some (1, c :: r, 0)) := by
      unfold piece
      rw [if_neg (by rw [hb]; decide), if_pos h2, h3, if_neg (by omega)]
      have : (c :: r).take (r.length + 1) = c :: r := List.take_length (l := c :: r)
      rw [this]
    unfold lexS
    rw [if_neg (by simp only [List.length_cons]; omega), lexAt_go 0 hp]
    have : (c :: r).drop (r.length + 1) = [] := List.drop_length (l := c :: r)
    rw [this, lexAt_nil]
    simp [Res.before, tokAt]

theorem awake1 : lexS [97, 45, 62, 98] = ([⟨1, [97], 0, 0⟩, ⟨3, [45, 62], 0, 1⟩, ⟨1, [98], 0, 3⟩, ⟨0, [], 0, 4⟩], 0, 0) := by decide +kernel
theorem awake2 : lexS [97, 32, 45, 32, 98] = ([], 2, 2) := by decide +kernel

end Go.Proofs.Ytmahbocelckmcaa.Lex
