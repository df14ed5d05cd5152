/-
  Tokens in plain lists of bytes. Tokens in plain lists of bytes: blanks, numbers, the laws' own texts. Tokens in plain lists of bytes: a number as it is written; one word, blanks alone. Tokens in plain lists of bytes: what each branch of a walk says of the piece that begins. Rows of tokens in memory: append of one; what a walk reads. Texts, byte by byte: what the walks share. The walks of the reference's small, digit and run. The walks of the reference's Reserved and Name.
    Made of several texts by wip/tools/mergetpl.py. By an AI agent.
-/
import Derived.Lib.ItoaNum
import Derived.Test.YtimbbfneaaglbaaGreatChecked
import Derived.WalkKit
import Derived.Below
import Derived.Laws.AppendOwn
import Derived.Lib.Hide
import Derived.Sort.OwnSorted
import Derived.WalkSpells
import Derived.WalkLawsBesides
import Derived.Lib.MinMax
import Derived.IntWalk
import Derived.OwnWalk
/- Tokens in plain lists of bytes. By an AI agent. -/
namespace Go.Proofs.YtimbbfneaaglbaaGreat.Lex

/-- A token: its kind (0: the end, 1: a word, 2: a number, 3: a sign), its text, its number, its place. -/
structure Tk where
  kind : Nat
  text : List UInt8
  num : Nat
  pos : Nat
deriving DecidableEq

def small (c : UInt8) : Bool := decide (97 ≤ c.toNat ∧ c.toNat ≤ 122)
def digit (c : UInt8) : Bool := decide (48 ≤ c.toNat ∧ c.toNat ≤ 57)
def wordB (c : UInt8) : Bool := digit c || small c || decide (c.toNat = 95)
def blank (c : UInt8) : Bool := decide (c.toNat = 32 ∨ c.toNat = 10)
def signs : List Nat := [40, 41, 91, 93, 123, 125, 44, 42, 46, 63, 43, 59, 33, 38, 124]
def isSign (c : UInt8) : Bool := decide (c.toNat ∈ signs)
def run (words : Bool) (bs : List UInt8) : Nat := (bs.takeWhile (if words then wordB else digit)).length
def numOf (bs : List UInt8) : Nat := bs.foldl (fun v c => 10 * v + (c.toNat - 48)) 0

/-- How many bytes the next piece has, and which token it is, if it is none of the blanks; none: there is no valid one. -/
def piece (c : UInt8) (r : List UInt8) : Option (Nat × Option (Nat × List UInt8 × Nat)) :=
  if blank c = true then some (1, none)
  else if small c = true then (if 16 < run true (c :: r) then none else some (run true (c :: r), some (1, (c :: r).take (run true (c :: r)), 0)))
  else if digit c = true then (if 4 < run false (c :: r) ∨ (c.toNat = 48 ∧ 1 < run false (c :: r)) then none else some (run false (c :: r), some (2, [], numOf ((c :: r).take (run false (c :: r))))))
  else if c.toNat = 45 ∧ r.head?.map (·.toNat) = some 62 then some (2, some (3, [45, 62], 0))
  else if isSign c = true then some (1, some (3, [c], 0))
  else none

/-- The tokens, or the place of what is none. -/
inductive Res where
  | ok (l : List Tk)
  | bad (at' : Nat)
deriving DecidableEq

def Res.before (l : List Tk) : Res → Res
  | .ok m => .ok (l ++ m)
  | .bad p => .bad p
theorem before_nil (r : Res) : r.before [] = r := by cases r <;> rfl
theorem before_before (l m : List Tk) (r : Res) : (r.before m).before l = r.before (l ++ m) := by
  cases r with
  | ok k => exact congrArg Res.ok (List.append_assoc l m k).symm
  | bad p => rfl

def tokAt (p : Nat) : Option (Nat × List UInt8 × Nat) → List Tk
  | none => []
  | some (k, t, n) => [⟨k, t, n, p⟩]

def lexF : Nat → Nat → List UInt8 → Res
  | _, p, [] => .ok [⟨0, [], 0, p⟩]
  | 0, p, _ :: _ => .bad p
  | f + 1, p, c :: r => match piece c r with
    | none => .bad p
    | some (n, t) => (lexF f (p + n) ((c :: r).drop n)).before (tokAt p t)

theorem run_le (words : Bool) (bs : List UInt8) : run words bs ≤ bs.length := by
  unfold run
  exact (List.takeWhile_prefix _).length_le

theorem run_pos {words : Bool} {c : UInt8} {r : List UInt8} (h : (if words then wordB else digit) c = true) : 1 ≤ run words (c :: r) := by
  unfold run
  rw [List.takeWhile_cons_of_pos h]
  simp

theorem small_word {c : UInt8} (h : small c = true) : wordB c = true := by simp [wordB, h]
theorem digit_word {c : UInt8} (h : digit c = true) : wordB c = true := by simp [wordB, h]

theorem piece_pos {c : UInt8} {r : List UInt8} {n : Nat} {t : Option (Nat × List UInt8 × Nat)} (h : piece c r = some (n, t)) : 1 ≤ n ∧ n ≤ r.length + 1 := by
  unfold piece at h
  by_cases h1 : blank c = true
  · rw [if_pos h1] at h; cases h; simp
  · rw [if_neg h1] at h
    by_cases h2 : small c = true
    · rw [if_pos h2] at h
      split at h
      · cases h
      · cases h; exact ⟨run_pos (small_word h2), run_le _ _⟩
    · rw [if_neg h2] at h
      by_cases h3 : digit c = true
      · rw [if_pos h3] at h
        split at h
        · cases h
        · cases h; exact ⟨run_pos h3, run_le _ _⟩
      · rw [if_neg h3] at h
        by_cases h4 : c.toNat = 45 ∧ r.head?.map (·.toNat) = some 62
        · rw [if_pos h4] at h
          cases h
          obtain ⟨-, h5⟩ := h4
          cases r with
          | nil => cases h5
          | cons d r => simp
        · rw [if_neg h4] at h
          split at h
          · cases h; simp
          · cases h

/-- Fuel enough is as good as more. -/
theorem lexF_fuel : ∀ (f : Nat) (p : Nat) (bs : List UInt8), bs.length ≤ f → ∀ g, bs.length ≤ g → lexF f p bs = lexF g p bs := by
  intro f
  induction f with
  | zero =>
    intro p bs h g _
    cases bs with
    | nil => simp [lexF]
    | cons c r => simp at h
  | succ f ih =>
    intro p bs h g hg
    cases bs with
    | nil => simp [lexF]
    | cons c r =>
      cases g with
      | zero => simp at hg
      | succ g =>
        simp only [List.length_cons] at h hg
        simp only [lexF]
        cases hs : piece c r with
        | none => rfl
        | some x =>
          obtain ⟨n, t⟩ := x
          obtain ⟨h1, h2⟩ := piece_pos hs
          simp only
          rw [ih (p + n) ((c :: r).drop n) (by simp only [List.length_drop, List.length_cons]; omega) g (by simp only [List.length_drop, List.length_cons]; omega)]

/-- What a list of bytes is, from place p on. -/
def lexAt (p : Nat) (bs : List UInt8) : Res := lexF bs.length p bs
theorem lexAt_nil (p : Nat) : lexAt p [] = .ok [⟨0, [], 0, p⟩] := rfl
theorem lexAt_bad {c : UInt8} {r : List UInt8} (p : Nat) (h : piece c r = none) : lexAt p (c :: r) = .bad p := by
  simp only [lexAt, List.length_cons, lexF, h]
theorem lexAt_go {c : UInt8} {r : List UInt8} {n : Nat} {t : Option (Nat × List UInt8 × Nat)} (p : Nat) (h : piece c r = some (n, t)) :
    lexAt p (c :: r) = (lexAt (p + n) ((c :: r).drop n)).before (tokAt p t) := by
  obtain ⟨h1, h2⟩ := piece_pos h
  simp only [lexAt, List.length_cons, lexF, h]
  rw [lexF_fuel r.length (p + n) ((c :: r).drop n) (by simp only [List.length_drop, List.length_cons]; omega) _ (Nat.le_refl _)]

/-- What a text is: its tokens, the place, the error (4: too many bytes; 2: no valid token). -/
def lexS (bs : List UInt8) : List Tk × Nat × Nat :=
  if 2000 < bs.length then ([], 0, 4) else match lexAt 0 bs with
    | .ok l => (l, 0, 0)
    | .bad p => ([], p, 2)

def reserved : List (List UInt8) := [[116, 114, 117, 101], [102, 97, 108, 115, 101], [112, 114, 101, 118], [110, 101, 120, 116], [111, 110, 99, 101], [104, 105, 115, 116], [115, 111, 109, 101], [97, 108, 108], [115, 105, 110, 99, 101], [117, 110, 116, 105, 108], [98, 97, 99, 107], [102, 111, 114, 101]]
def nameS (bs : List UInt8) : Bool :=
  match bs with
  | [] => false
  | c :: r => decide (r.length + 1 ≤ 16) && small c && decide (run true (c :: r) = r.length + 1) && !(decide (c :: r ∈ reserved))

theorem name_lex {bs : List UInt8} (h : nameS bs = true) : lexS bs = ([⟨1, bs, 0, 0⟩, ⟨0, [], 0, bs.length⟩], 0, 0) := by
  cases bs with
  | nil => cases h
  | cons c r =>
    simp only [nameS, Bool.and_eq_true, decide_eq_true_eq] at h
    obtain ⟨⟨⟨h1, h2⟩, h3⟩, -⟩ := h
    have hb : blank c = false := by
      simp only [small, decide_eq_true_eq] at h2
      simp only [blank, decide_eq_false_iff_not]
      omega
    have hp : piece c r = some (r.length + 1, some (1, c :: r, 0)) := by
      unfold piece
      rw [if_neg (by rw [hb]; decide), if_pos h2, h3, if_neg (by omega)]
      have : (c :: r).take (r.length + 1) = c :: r := List.take_length (l := c :: r)
      rw [this]
    unfold lexS
    rw [if_neg (by simp only [List.length_cons]; omega), lexAt_go 0 hp]
    have : (c :: r).drop (r.length + 1) = [] := List.drop_length (l := c :: r)
    rw [this, lexAt_nil]
    simp [Res.before, tokAt]

theorem awake1 : lexS [97, 45, 62, 98] = ([⟨1, [97], 0, 0⟩, ⟨3, [45, 62], 0, 1⟩, ⟨1, [98], 0, 3⟩, ⟨0, [], 0, 4⟩], 0, 0) := by decide +kernel
theorem awake2 : lexS [97, 32, 45, 32, 98] = ([], 2, 2) := by decide +kernel

end Go.Proofs.YtimbbfneaaglbaaGreat.Lex

/- Tokens in plain lists of bytes: blanks, numbers, the laws' own texts. By an AI agent. -/
namespace Go.Proofs.YtimbbfneaaglbaaGreat.Lex

theorem piece_blank {c : UInt8} (r : List UInt8) (h : blank c = true) : piece c r = some (1, none) := by
  unfold piece; rw [if_pos h]
theorem lexAt_blank {c : UInt8} (p : Nat) (r : List UInt8) (h : blank c = true) : lexAt p (c :: r) = lexAt (p + 1) r := by
  rw [lexAt_go p (piece_blank r h)]
  exact before_nil _
theorem lexAt_blanks : ∀ (b : List UInt8) (p : Nat) (r : List UInt8), (∀ c ∈ b, blank c = true) → lexAt p (b ++ r) = lexAt (p + b.length) r
  | [], p, r, _ => rfl
  | c :: b, p, r, h => by
    rw [List.cons_append, lexAt_blank p _ (h c (by simp)), lexAt_blanks b (p + 1) r (fun d hd => h d (by simp [hd]))]
    rw [List.length_cons]
    congr 1
    omega

/-- What a text's beginning says where a piece is followed by a blank, or by nothing. -/
theorem run_stop {words : Bool} : ∀ (t : List UInt8) (r : List UInt8), (∀ c ∈ t, (if words then wordB else digit) c = true) → (∀ c, r.head? = some c → (if words then wordB else digit) c = false) → run words (t ++ r) = t.length
  | [], r, _, h2 => by
    unfold run
    cases r with
    | nil => rfl
    | cons c r => rw [List.nil_append, List.takeWhile_cons_of_neg (by rw [h2 c rfl]; decide)]
  | c :: t, r, h1, h2 => by
    have ih := run_stop t r (fun d hd => h1 d (by simp [hd])) h2
    unfold run at *
    rw [List.cons_append, List.takeWhile_cons_of_pos (h1 c (by simp)), List.length_cons, List.length_cons, ih]

theorem digit_not {c : UInt8} (h : digit c = true) : blank c = false ∧ small c = false := by
  simp only [digit, decide_eq_true_eq] at h
  simp only [blank, small, decide_eq_false_iff_not]
  omega

theorem piece_num {c : UInt8} {t r : List UInt8} (hd : ∀ x ∈ c :: t, digit x = true) (hr : ∀ x, r.head? = some x → digit x = false) (hl : t.length ≤ 3) (hz : c.toNat = 48 → t = []) :
    piece c (t ++ r) = some (t.length + 1, some (2, [], numOf (c :: t))) := by
  have hc := digit_not (hd c (by simp))
  have hrun : run false (c :: (t ++ r)) = t.length + 1 := run_stop (words := false) (c :: t) r hd hr
  unfold piece
  rw [if_neg (by rw [hc.1]; decide), if_neg (by rw [hc.2]; decide), if_pos (hd c (by simp)), hrun, if_neg]
  · have : (c :: (t ++ r)).take (t.length + 1) = c :: t := by
      rw [← List.cons_append]
      exact List.take_left' rfl
    rw [this]
  · rintro (h | ⟨h1, h2⟩)
    · omega
    · rw [hz h1] at h2; simp at h2

theorem piece_long {c : UInt8} {t r : List UInt8} (hd : ∀ x ∈ c :: t, digit x = true) (hl : 4 ≤ t.length ∨ (c.toNat = 48 ∧ 1 ≤ t.length)) : piece c (t ++ r) = none := by
  have hc := digit_not (hd c (by simp))
  have hrun : t.length + 1 ≤ run false (c :: (t ++ r)) := by
    unfold run
    rw [← List.cons_append, show (if false = true then wordB else digit) = digit from rfl, List.takeWhile_append_of_pos hd]
    simp
  unfold piece
  rw [if_neg (by rw [hc.1]; decide), if_neg (by rw [hc.2]; decide), if_pos (hd c (by simp)), if_pos]
  omega

/-- The tokens of the law's own table: their bytes, and what they are. -/
def table : List (List UInt8 × Nat × List UInt8 × Nat) :=
  [([97], 1, [97], 0), ([98, 50], 1, [98, 50], 0), ([111, 110, 99, 101], 1, [111, 110, 99, 101], 0), ([115, 105, 110, 99, 101], 1, [115, 105, 110, 99, 101], 0), ([102, 111, 114, 101], 1, [102, 111, 114, 101], 0),
   ([48], 2, [], 0), ([55], 2, [], 7), ([57, 57, 57, 57], 2, [], 9999), ([45, 62], 3, [45, 62], 0), ([40], 3, [40], 0), ([41], 3, [41], 0), ([91], 3, [91], 0), ([93], 3, [93], 0), ([123], 3, [123], 0), ([125], 3, [125], 0),
   ([44], 3, [44], 0), ([42], 3, [42], 0), ([46], 3, [46], 0), ([63], 3, [63], 0), ([43], 3, [43], 0), ([59], 3, [59], 0), ([33], 3, [33], 0), ([38], 3, [38], 0), ([124], 3, [124], 0), ([120, 95, 121], 1, [120, 95, 121], 0), ([116, 114, 117, 101], 1, [116, 114, 117, 101], 0)]

/-- A token of the table ahead of a blank. -/
theorem table_piece : ∀ e ∈ table, ∀ b ∈ ([32, 10] : List UInt8), ∀ r : List UInt8, ∃ c t, e.1 = c :: t ∧ piece c (t ++ b :: r) = some (t.length + 1, some e.2) := by
  intro e he b hb r
  simp only [table, List.mem_cons, List.not_mem_nil, or_false] at he hb
  rcases he with rfl | rfl | rfl | rfl | rfl | rfl | rfl | rfl | rfl | rfl | rfl | rfl | rfl | rfl | rfl | rfl | rfl | rfl | rfl | rfl | rfl | rfl | rfl | rfl | rfl | rfl <;> rcases hb with rfl | rfl <;> exact ⟨_, _, rfl, rfl⟩

theorem lexAt_table {e : List UInt8 × Nat × List UInt8 × Nat} (he : e ∈ table) {b : UInt8} (hb : b = 32 ∨ b = 10) (p : Nat) (r : List UInt8) :
    lexAt p (e.1 ++ b :: r) = (lexAt (p + e.1.length) (b :: r)).before [⟨e.2.1, e.2.2.1, e.2.2.2, p⟩] := by
  obtain ⟨c, t, h1, h2⟩ := table_piece e he b (by rcases hb with rfl | rfl <;> simp) r
  rw [h1, List.cons_append, lexAt_go p h2]
  have : (c :: (t ++ b :: r)).drop (t.length + 1) = b :: r := by
    rw [← List.cons_append]
    exact List.drop_left' rfl
  rw [this]
  rfl

/-- The tokens that the numbers ns stand for, each one at its place, gaps ahead and behind. -/
def pick (n : Nat) : List UInt8 × Nat × List UInt8 × Nat := table.getD (n % 26) ([97], 1, [97], 0)
theorem pick_mem (n : Nat) : pick n ∈ table := by
  have : n % 26 < table.length := Nat.mod_lt _ (by decide)
  unfold pick
  rw [List.getD_eq_getElem?_getD, List.getElem?_eq_getElem this]
  exact List.getElem_mem this
def textOf : List (List UInt8 × Nat × List UInt8) → List UInt8
  | [] => []
  | (a, n, b) :: r => a ++ ((pick n).1 ++ (b ++ textOf r))
def toksOf : Nat → List (List UInt8 × Nat × List UInt8) → List Tk
  | p, [] => [⟨0, [], 0, p⟩]
  | p, (a, n, b) :: r => ⟨(pick n).2.1, (pick n).2.2.1, (pick n).2.2.2, p + a.length⟩ :: toksOf (p + a.length + (pick n).1.length + b.length) r
theorem lexAt_text : ∀ (l : List (List UInt8 × Nat × List UInt8)) (p : Nat), (∀ x ∈ l, (∀ c ∈ x.1, blank c = true) ∧ (∀ c ∈ x.2.2, blank c = true) ∧ (x.2.2.head? = some 32 ∨ x.2.2.head? = some 10)) →
    lexAt p (textOf l) = .ok (toksOf p l)
  | [], p, _ => rfl
  | (a, n, b) :: r, p, h => by
    obtain ⟨h1, h2, h3⟩ := h (a, n, b) (by simp)
    have ih := lexAt_text r (p + a.length + (pick n).1.length + b.length) (fun x hx => h x (by simp [hx]))
    unfold textOf
    rw [lexAt_blanks a p _ h1]
    cases b with
    | nil => rcases h3 with h3 | h3 <;> cases h3
    | cons d b =>
      have hd : d = 32 ∨ d = 10 := by
        rcases h3 with h3 | h3
        · exact Or.inl (Option.some.inj h3)
        · exact Or.inr (Option.some.inj h3)
      rw [List.cons_append, lexAt_table (pick_mem n) hd, ← List.cons_append, lexAt_blanks (d :: b) _ _ h2, ih]
      rfl

end Go.Proofs.YtimbbfneaaglbaaGreat.Lex

/- Tokens in plain lists of bytes: a number as it is written; one word, blanks alone. By an AI agent. -/
namespace Go.Proofs.YtimbbfneaaglbaaGreat.Lex

theorem dig_toNat {k : Nat} (h : k < 10) : (UInt8.ofNat (48 + k)).toNat = 48 + k := by
  rw [UInt8.toNat_ofNat']
  omega
theorem numOf_snoc (l : List UInt8) (d : UInt8) : numOf (l ++ [d]) = 10 * numOf l + (d.toNat - 48) := by
  unfold numOf
  rw [List.foldl_append]
  rfl
theorem dec_split : ∀ (k u : Nat), u < 10 ^ (k + 1) → ∃ c t, Go.Lib.decDigits u = c :: t ∧ (∀ x ∈ c :: t, digit x = true) ∧ numOf (c :: t) = u ∧ (c.toNat = 48 → t = []) ∧ t.length ≤ k := by
  intro k
  induction k with
  | zero =>
    intro u hu
    have h : u < 10 := by omega
    refine ⟨_, _, Go.Lib.decDigits_one h, ?_, ?_, fun _ => rfl, Nat.le_refl _⟩
    · intro x hx
      rw [List.mem_singleton.1 hx]
      simp only [digit, decide_eq_true_eq, dig_toNat h]
      omega
    · show 10 * 0 + ((UInt8.ofNat (48 + u)).toNat - 48) = u
      rw [dig_toNat h]
      omega
  | succ k ih =>
    intro u hu
    by_cases h : u < 10
    · obtain ⟨c, t, h1, h2, h3, h4, h5⟩ := dec_small h
      exact ⟨c, t, h1, h2, h3, h4, by omega⟩
    · have hu' : u / 10 < 10 ^ (k + 1) := by
        rw [Nat.pow_succ] at hu
        omega
      obtain ⟨c, t, h1, h2, h3, h4, h5⟩ := ih (u / 10) hu'
      have hd : u % 10 < 10 := Nat.mod_lt _ (by decide)
      refine ⟨c, t ++ [UInt8.ofNat (48 + u % 10)], ?_, ?_, ?_, ?_, ?_⟩
      · rw [Go.Lib.decDigits, dif_neg h, h1]
        rfl
      · intro x hx
        rw [← List.cons_append] at hx
        rcases List.mem_append.1 hx with hx | hx
        · exact h2 x hx
        · rw [List.mem_singleton.1 hx]
          simp only [digit, decide_eq_true_eq, dig_toNat hd]
          omega
      · rw [← List.cons_append, numOf_snoc, h3, dig_toNat hd]
        omega
      · intro hc
        have ht := h4 hc
        subst ht
        exfalso
        have : numOf [c] = u / 10 := h3
        have e : numOf [c] = 10 * 0 + (c.toNat - 48) := rfl
        omega
      · rw [List.length_append]
        simp only [List.length_cons, List.length_nil]
        omega
where
  dec_small {u k : Nat} (h : u < 10) : ∃ c t, Go.Lib.decDigits u = c :: t ∧ (∀ x ∈ c :: t, digit x = true) ∧ numOf (c :: t) = u ∧ (c.toNat = 48 → t = []) ∧ t.length ≤ k + 1 := by
    refine ⟨_, _, Go.Lib.decDigits_one h, ?_, ?_, fun _ => rfl, by simp⟩
    · intro x hx
      rw [List.mem_singleton.1 hx]
      simp only [digit, decide_eq_true_eq, dig_toNat h]
      omega
    · show 10 * 0 + ((UInt8.ofNat (48 + u)).toNat - 48) = u
      rw [dig_toNat h]
      omega

/-- Blanks, then a number of one to four digits; a nought ahead of it; four digits more ahead of it. -/
theorem lex_number {v : Nat} (hv : v < 10000) {pad : List UInt8} (hp : ∀ c ∈ pad, blank c = true) (hl : pad.length ≤ 9) :
    lexS (pad ++ Go.Lib.decDigits v) = ([⟨2, [], v, pad.length⟩, ⟨0, [], 0, pad.length + (Go.Lib.decDigits v).length⟩], 0, 0) ∧
    lexS (pad ++ (48 :: Go.Lib.decDigits v)) = ([], pad.length, 2) ∧ lexS (pad ++ (49 :: 50 :: 51 :: 52 :: Go.Lib.decDigits v)) = ([], pad.length, 2) := by
  obtain ⟨c, t, h1, h2, h3, h4, h5⟩ := dec_split 3 v hv
  rw [h1]
  refine ⟨?_, ?_, ?_⟩
  · unfold lexS
    rw [if_neg (by simp only [List.length_append, List.length_cons]; omega), lexAt_blanks pad 0 _ hp]
    have hp := piece_num (r := []) h2 (fun x hx => by cases hx) h5 h4
    rw [List.append_nil] at hp
    rw [lexAt_go _ hp, List.drop_eq_nil_of_le (by simp), lexAt_nil, h3]
    simp [Res.before, tokAt]
  · unfold lexS
    rw [if_neg (by simp only [List.length_append, List.length_cons]; omega), lexAt_blanks pad 0 _ hp]
    have hq := piece_long (c := 48) (t := c :: t) (r := []) (fun x hx => by
      rcases List.mem_cons.1 hx with rfl | hx
      · decide
      · exact h2 x hx) (Or.inr ⟨rfl, by simp⟩)
    rw [List.append_nil] at hq
    rw [lexAt_bad _ hq]
    simp
  · unfold lexS
    rw [if_neg (by simp only [List.length_append, List.length_cons]; omega), lexAt_blanks pad 0 _ hp]
    have hq := piece_long (c := 49) (t := 50 :: 51 :: 52 :: c :: t) (r := []) (fun x hx => by
      simp only [List.mem_cons] at hx
      rcases hx with rfl | rfl | rfl | rfl | rfl | hx
      · decide
      · decide
      · decide
      · decide
      · exact h2 x (by simp)
      · exact h2 x (by simp [hx])) (Or.inl (by simp))
    rw [List.append_nil] at hq
    rw [lexAt_bad _ hq]
    simp

/-- Blanks alone. -/
theorem lex_blanks {s : List UInt8} (h : ∀ c ∈ s, blank c = true) : lexS s = if 2000 < s.length then ([], 0, 4) else ([⟨0, [], 0, s.length⟩], 0, 0) := by
  unfold lexS
  split
  · rfl
  · have := lexAt_blanks s 0 [] h
    rw [List.append_nil] at this
    rw [this, lexAt_nil]
    simp

theorem res_len : ∀ r ∈ reserved, r.length ≤ 5 := by decide

/-- Small letters alone, 12 of them or more. -/
theorem lex_letters {s : List UInt8} (h : ∀ c ∈ s, small c = true) (hl : 12 ≤ s.length) (hm : s.length ≤ 2000) :
    (s.length ≤ 16 → lexS s = ([⟨1, s, 0, 0⟩, ⟨0, [], 0, s.length⟩], 0, 0) ∧ nameS s = true) ∧ (16 < s.length → lexS s = ([], 0, 2) ∧ nameS s = false) := by
  cases s with
  | nil => simp at hl
  | cons c r =>
    have hrun : run true (c :: r) = r.length + 1 := by
      have := run_stop (words := true) (c :: r) [] (fun x hx => small_word (h x hx)) (fun x hx => by cases hx)
      rw [List.append_nil] at this
      exact this
    have hs := h c (by simp)
    simp only [List.length_cons] at hl hm ⊢
    refine ⟨fun h16 => ?_, fun h16 => ?_⟩
    · have hn : nameS (c :: r) = true := by
        have hnot : c :: r ∉ reserved := fun hm => by
          have := res_len _ hm
          simp only [List.length_cons] at this
          omega
        show (decide (r.length + 1 ≤ 16) && small c && decide (run true (c :: r) = r.length + 1) && !(decide (c :: r ∈ reserved))) = true
        rw [decide_eq_true h16, hs, decide_eq_true hrun, decide_eq_false hnot]
        rfl
      exact ⟨name_lex hn, hn⟩
    · have hb : blank c = false := by
        simp only [small, decide_eq_true_eq] at hs
        simp only [blank, decide_eq_false_iff_not]
        omega
      have hp : piece c r = none := by
        unfold piece
        rw [if_neg (by rw [hb]; decide), if_pos hs, hrun, if_pos (by omega)]
      refine ⟨?_, ?_⟩
      · unfold lexS
        rw [if_neg (by simp only [List.length_cons]; omega), lexAt_bad _ hp]
      · simp only [nameS]
        rw [decide_eq_false (by omega)]
        rfl
end Go.Proofs.YtimbbfneaaglbaaGreat.Lex

/- Tokens in plain lists of bytes: what each branch of a walk says of the piece that begins. By an AI agent. -/
namespace Go.Proofs.YtimbbfneaaglbaaGreat.Lex

theorem lex_step {L : List UInt8} {p n : Nat} {R : Res} {acc : List Tk} {c : UInt8} {r : List UInt8} {t : Option (Nat × List UInt8 × Nat)} (hd : L.drop p = c :: r) (hR : R = (lexAt p (L.drop p)).before acc) (hp : piece c r = some (n, t)) :
    R = (lexAt (p + n) (L.drop (p + n))).before (acc ++ tokAt p t) := by
  rw [hR, hd, lexAt_go p hp, ← hd, List.drop_drop, before_before]
theorem lex_stop {L : List UInt8} {p : Nat} {R : Res} {acc : List Tk} {c : UInt8} {r : List UInt8} (hd : L.drop p = c :: r) (hR : R = (lexAt p (L.drop p)).before acc) (hp : piece c r = none) : R = .bad p := by
  rw [hR, hd, lexAt_bad p hp]
  rfl
theorem lex_end {L : List UInt8} {p : Nat} {R : Res} {acc : List Tk} (hd : L.drop p = []) (hR : R = (lexAt p (L.drop p)).before acc) : R = .ok (acc ++ [⟨0, [], 0, p⟩]) := by
  rw [hR, hd, lexAt_nil]
  rfl

theorem not_blank {c : UInt8} (h1 : c.toNat ≠ 32) (h2 : c.toNat ≠ 10) : blank c = false := by
  simp only [blank, decide_eq_false_iff_not]; omega
theorem is_blank {c : UInt8} (h : c.toNat = 32 ∨ c.toNat = 10) : blank c = true := by
  simp only [blank, decide_eq_true_eq]; exact h
theorem piece_word {c : UInt8} {r : List UInt8} {n : Nat} (hb : blank c = false) (h : small c = true) (hn : run true (c :: r) = n) :
    (16 < n → piece c r = none) ∧ (n ≤ 16 → piece c r = some (n, some (1, (c :: r).take n, 0))) := by
  unfold piece
  rw [if_neg (by rw [hb]; decide), if_pos h, hn]
  exact ⟨fun h16 => by rw [if_pos h16], fun h16 => by rw [if_neg (by omega)]⟩
theorem piece_digits {c : UInt8} {r : List UInt8} {n : Nat} (hb : blank c = false) (hs : small c = false) (h : digit c = true) (hn : run false (c :: r) = n) :
    ((4 < n ∨ c.toNat = 48 ∧ 1 < n) → piece c r = none) ∧ (¬ (4 < n ∨ c.toNat = 48 ∧ 1 < n) → piece c r = some (n, some (2, [], numOf ((c :: r).take n)))) := by
  unfold piece
  rw [if_neg (by rw [hb]; decide), if_neg (by rw [hs]; decide), if_pos h, hn]
  exact ⟨fun h4 => by rw [if_pos h4], fun h4 => by rw [if_neg h4]⟩
theorem piece_arrow {c d : UInt8} {r : List UInt8} (h : c.toNat = 45) (hd : d.toNat = 62) : piece c (d :: r) = some (2, some (3, [45, 62], 0)) := by
  have hb : blank c = false := not_blank (by omega) (by omega)
  have hs : small c = false := by simp only [small, decide_eq_false_iff_not]; omega
  have hg : digit c = false := by simp only [digit, decide_eq_false_iff_not]; omega
  unfold piece
  rw [if_neg (by rw [hb]; decide), if_neg (by rw [hs]; decide), if_neg (by rw [hg]; decide), if_pos ⟨h, by simp [hd]⟩]
theorem piece_dash {c : UInt8} {r : List UInt8} (h : c.toNat = 45) (hd : ∀ d, r.head? = some d → d.toNat ≠ 62) : piece c r = none := by
  have hb : blank c = false := not_blank (by omega) (by omega)
  have hs : small c = false := by simp only [small, decide_eq_false_iff_not]; omega
  have hg : digit c = false := by simp only [digit, decide_eq_false_iff_not]; omega
  have hi : isSign c = false := by simp only [isSign, decide_eq_false_iff_not, h]; decide
  unfold piece
  rw [if_neg (by rw [hb]; decide), if_neg (by rw [hs]; decide), if_neg (by rw [hg]; decide), if_neg, if_neg (by rw [hi]; decide)]
  rintro ⟨-, h2⟩
  cases hr : r.head? with
  | none => rw [hr] at h2; cases h2
  | some d => rw [hr] at h2; exact hd d hr (Option.some.inj h2)
theorem dash_sign {c : UInt8} (h : c.toNat = 45) : isSign c = false := by simp only [isSign, decide_eq_false_iff_not, h]; decide
theorem piece_sign {c : UInt8} {r : List UInt8} (hb : blank c = false) (hs : small c = false) (hg : digit c = false) (h45 : c.toNat ≠ 45) :
    (isSign c = true → piece c r = some (1, some (3, [c], 0))) ∧ (isSign c = false → piece c r = none) := by
  unfold piece
  rw [if_neg (by rw [hb]; decide), if_neg (by rw [hs]; decide), if_neg (by rw [hg]; decide), if_neg (by omega)]
  exact ⟨fun h => by rw [if_pos h], fun h => by rw [if_neg (by rw [h]; decide)]⟩

/-- The digits that a run has. -/
theorem run_digits : ∀ (bs : List UInt8) (k : Nat), k < run false bs → ∃ d, bs[k]? = some d ∧ digit d = true
  | [], k, h => by simp [run] at h
  | c :: r, k, h => by
    rcases hc : digit c
    · have : run false (c :: r) = 0 := by
        unfold run
        rw [List.takeWhile_cons_of_neg (by simp [hc])]
        rfl
      omega
    · cases k with
      | zero => exact ⟨c, rfl, hc⟩
      | succ k =>
        have e : run false (c :: r) = run false r + 1 := by
          unfold run
          rw [List.takeWhile_cons_of_pos (by simpa using hc)]
          rfl
        obtain ⟨d, h1, h2⟩ := run_digits r k (by omega)
        exact ⟨d, by simpa using h1, h2⟩
theorem numOf_take (bs : List UInt8) (k : Nat) (d : UInt8) (h : bs[k]? = some d) : numOf (bs.take (k + 1)) = 10 * numOf (bs.take k) + (d.toNat - 48) := by
  rw [List.take_add_one, h]
  exact numOf_snoc _ _
theorem numOf_lt : ∀ (k : Nat) (bs : List UInt8), k ≤ run false bs → numOf (bs.take k) < 10 ^ k
  | 0, bs, _ => by rw [List.take_zero]; decide
  | k + 1, bs, h => by
    obtain ⟨d, h1, h2⟩ := run_digits bs k (by omega)
    have ih := numOf_lt k bs (by omega)
    rw [numOf_take bs k d h1]
    simp only [digit, decide_eq_true_eq] at h2
    rw [Nat.pow_succ]
    omega
theorem lexF_len : ∀ (f p : Nat) (bs : List UInt8) (l : List Tk), lexF f p bs = .ok l → l.length ≤ bs.length + 1 := by
  intro f
  induction f with
  | zero =>
    intro p bs l h
    cases bs with
    | nil => simp only [lexF, Res.ok.injEq] at h; rw [← h]; simp
    | cons c r => simp [lexF] at h
  | succ f ih =>
    intro p bs l h
    cases bs with
    | nil => simp only [lexF, Res.ok.injEq] at h; rw [← h]; simp
    | cons c r =>
      simp only [lexF] at h
      cases hp : piece c r with
      | none => rw [hp] at h; cases h
      | some x =>
        obtain ⟨n, t⟩ := x
        rw [hp] at h
        simp only at h
        obtain ⟨h1, h2⟩ := piece_pos hp
        cases hl : lexF f (p + n) ((c :: r).drop n) with
        | bad q => rw [hl] at h; cases h
        | ok m =>
          rw [hl] at h
          have := ih _ _ _ hl
          simp only [Res.before, Res.ok.injEq] at h
          rw [← h]
          have ht : (tokAt p t).length ≤ 1 := by cases t <;> simp [tokAt]
          simp only [List.length_append, List.length_drop, List.length_cons] at this ⊢
          omega
theorem lexS_len (bs : List UInt8) : (lexS bs).1.length ≤ 4000 := by
  unfold lexS
  split
  · simp
  · cases h : lexAt 0 bs with
    | bad p => simp
    | ok l =>
      have := lexF_len _ _ _ _ h
      simp only
      omega
end Go.Proofs.YtimbbfneaaglbaaGreat.Lex

/- Rows of tokens in memory: append of one; what a walk reads. By an AI agent. -/
namespace Go.Proofs.YtimbbfneaaglbaaGreat.Lex
open Go.RowKit

/-- The cells of a token. -/
def bytes (l : List UInt8) : ByteArray := ⟨l.toArray⟩
def cellsTk (t : Tk) : List Value := [.int .i64 (t.kind : Int), .string (bytes t.text), .int .i64 (t.num : Int), .int .i64 (t.pos : Int)]
def rowTk (l : List Tk) : List Value := l.flatMap cellsTk
theorem rowTk_len (l : List Tk) : (rowTk l).length = l.length * 4 := by
  induction l with
  | nil => rfl
  | cons t l ih =>
    simp only [rowTk, List.flatMap_cons, List.length_append, List.length_cons] at ih ⊢
    rw [ih]
    show 4 + l.length * 4 = (l.length + 1) * 4
    omega
theorem rowTk_snoc (l : List Tk) (t : Tk) : rowTk (l ++ [t]) = rowTk l ++ cellsTk t := by
  simp [rowTk]
theorem rowTk_at : ∀ (l : List Tk) (j : Nat) (t : Tk), l[j]? = some t → ∀ f, f < 4 → (rowTk l)[4 * j + f]? = (cellsTk t)[f]?
  | [], j, t, h, _, _ => by simp at h
  | x :: l, 0, t, h, f, hf => by
    simp only [List.getElem?_cons_zero, Option.some.injEq] at h
    subst h
    show (cellsTk x ++ rowTk l)[4 * 0 + f]? = _
    rw [Nat.mul_zero, Nat.zero_add, List.getElem?_append_left (by exact hf)]
  | x :: l, j + 1, t, h, f, hf => by
    have ih := rowTk_at l j t (by simpa using h) f hf
    show (cellsTk x ++ rowTk l)[4 * (j + 1) + f]? = _
    rw [List.getElem?_append_right (by show 4 ≤ _; omega), ← ih]
    congr 1
    show 4 * (j + 1) + f - 4 = _
    omega
theorem cellsTk_one (t : Tk) : ∀ u ∈ cellsTk t, u.oneCell' = true := by
  intro u hu
  simp only [cellsTk, List.mem_cons, List.not_mem_nil, or_false] at hu
  rcases hu with rfl | rfl | rfl | rfl <;> rfl

/-- The slice v reads as the tokens l. -/
def Toks (w : World) (v : Value) (l : List Tk) : Prop :=
  ∃ A c, v = .slice A l.length c ∧ (∀ a, A = some a → a.block < w.heap.size) ∧
    (0 < l.length → ∃ b, A = some ⟨b, 0, none⟩ ∧ ∀ (j : Nat) (t : Tk), l[j]? = some t →
      w.cell? ⟨b, 4 * j, none⟩ = some (.int .i64 (t.kind : Int)) ∧ w.cell? ⟨b, 4 * j + 1, none⟩ = some (.string (bytes t.text)) ∧ w.cell? ⟨b, 4 * j + 2, none⟩ = some (.int .i64 (t.num : Int)) ∧ w.cell? ⟨b, 4 * j + 3, none⟩ = some (.int .i64 (t.pos : Int)))
theorem keepc {w w' : World} {b o : Nat} {u : Value} (hb : Below w.heap.size w w') (hlt : b < w.heap.size) (h : w.cell? ⟨b, o, none⟩ = some u) : w'.cell? ⟨b, o, none⟩ = some u :=
  (hb.cell (show (⟨b, o, none⟩ : Addr).block < w.heap.size from hlt)).trans h
theorem Toks.keep {w w' : World} {v : Value} {l : List Tk} (h : Toks w v l) (hb : Below w.heap.size w w') : Toks w' v l := by
  obtain ⟨A, c, h1, h2, h3⟩ := h
  refine ⟨A, c, h1, fun a ha => Nat.lt_of_lt_of_le (h2 a ha) hb.size, fun h0 => ?_⟩
  obtain ⟨b, h4, h5⟩ := h3 h0
  have hlt : b < w.heap.size := h2 _ h4
  refine ⟨b, h4, fun j t ht => ?_⟩
  obtain ⟨c1, c2, c3, c4⟩ := h5 j t ht
  exact ⟨keepc hb hlt c1, keepc hb hlt c2, keepc hb hlt c3, keepc hb hlt c4⟩
theorem Toks.own {w : World} {base : Nat} {e : TypeId} {v : Value} {l : List Tk} (h : w.ownsRow base e 4 v l.length (rowTk l)) : Toks w v l := by
  have hlt := h.lt
  have h' := h
  rcases h.2 with ⟨rfl, h0⟩ | ⟨g, cap, cur, rfl, _, _, h3, h4, _⟩
  · exact ⟨none, 0, by rw [h0], fun a ha => by (cases ha), fun hp => by omega⟩
  · refine ⟨_, cap, rfl, fun a ha => by injection ha with ha; subst ha; exact (hlt g rfl).2, fun _ => ⟨g, rfl, fun j t ht => ?_⟩⟩
    have hj : j < l.length := (List.getElem?_eq_some_iff.1 ht).1
    have key : ∀ f, f < 4 → w.cell? ⟨g, 4 * j + f, none⟩ = (cellsTk t)[f]? := fun f hf => by
      rw [h'.cellAt (4 * j + f) (by omega)]
      exact rowTk_at l j t ht f hf
    exact ⟨key 0 (by omega), key 1 (by omega), key 2 (by omega), key 3 (by omega)⟩

section
variable {P : Program} {w : World}
/-- 'append(v, t)' : v is the call's own row of tokens; t lies in a new block of four cells. -/
theorem wpList_append_tok {ops : Array Oper} {rest : List Oper} {o : Oper} {a : Act} {Q : Exit → Act → World → Prop} (hgd : o.guard = none) (s x : Operand) (t : TypeId)
    (ho : o.op = .call { callee := .builtin .append, args := #[s, x], argTypes := #[t, t] }) (base : Nat) (e : TypeId) (i : TypeInfo) (z : Value) (nb : Nat)
    (ht : P.underlying t = some (.slice e)) (hi : P.info? e = some i) (hz : i.zero = some z) (hsize : i.size = 4) (hby : i.bytes = nb) (hzs : z.cells.size = 4)
    (v : Value) (l : List Tk) (hs : a.eval s = v) (hown : w.ownsRow base e 4 v l.length (rowTk l))
    (tk : Tk) (T : TypeId) (cs : Array Value) (hcs : cs = (cellsTk tk).toArray) (hx : a.eval x = .slice (some ⟨w.heap.size, 0, none⟩) 1 1)
    (hl : l.length ≤ 2000) (hb : nb ≤ 1000) (hbase : base ≤ w.heap.size)
    (h : ∀ v' w', w'.ownsRow base e 4 v' (l ++ [tk]).length (rowTk (l ++ [tk])) → (w.alloc (.cells cs T)).grownBy w' v.ownBlock → wpList P ops Q rest (a.put o.dst v') w') : wpList P ops Q (o :: rest) a (w.alloc (.cells cs T)) := by
  subst hcs
  refine wpList_append_own _ hgd s x t ho base e i z 4 nb ht hi hz hsize hby hzs (by decide) v l.length (rowTk l) hs (hown.alloc _) ⟨w.heap.size, 0, none⟩ 1 1 (cellsTk tk) hx rfl (fun j u hu => ?_) (cellsTk_one tk)
    (by have : maxLen = 9223372036854775807 := rfl; omega) (by have : (l.length + 1) * nb ≤ 2001 * 1000 := Nat.mul_le_mul (by omega) hb; omega) (by simp; omega) (fun v' w' h1 h2 _ => h v' w' ?_ h2)
  · rw [show (⟨w.heap.size, 0, none⟩ : Addr).add j = ⟨w.heap.size, j, none⟩ by unfold Addr.add; split <;> simp_all]
    rw [cell_of_row _ w.heap.size j _ T (0, 0) (heap_alloc_new w _)]
    simpa using hu
  · rw [rowTk_snoc, List.length_append]
    exact h1
end
end Go.Proofs.YtimbbfneaaglbaaGreat.Lex

/- Texts, byte by byte: what the walks share. By an AI agent. -/
namespace Go.Proofs.YtimbbfneaaglbaaGreat.Lex
open Go.RowKit

theorem run_yes {words : Bool} {c : UInt8} {r : List UInt8} (h : (if words then wordB else digit) c = true) : run words (c :: r) = run words r + 1 := by
  unfold run
  rw [List.takeWhile_cons_of_pos h]
  rfl
theorem run_no {words : Bool} {c : UInt8} {r : List UInt8} (h : (if words then wordB else digit) c = false) : run words (c :: r) = 0 := by
  unfold run
  rw [List.takeWhile_cons_of_neg (by rw [h]; decide)]
  rfl
theorem drop_get (s : ByteArray) (q : Nat) (h : q < s.size) : s.data.toList.drop q = s[q] :: s.data.toList.drop (q + 1) := by
  have hl : q < s.data.toList.length := by rw [Array.length_toList]; exact h
  rw [List.drop_eq_getElem_cons hl]
  rfl
theorem drop_end (s : ByteArray) (q : Nat) (h : s.size ≤ q) : s.data.toList.drop q = [] := List.drop_eq_nil_of_le (by rw [Array.length_toList]; exact h)
theorem add64 {p n q : Nat} (h : p + n = q) (hq : q ≤ 9223372036854775807) : IntKind.i64.wrap ((p : Int) + (n : Int)) = (q : Int) ∧ wrap64 ((p : Int) + (n : Int)) = (q : Int) := by
  subst h
  rw [← Int.natCast_add]
  exact ⟨IntWalk.i64_in _ (by omega), IntWalk.wrap64_in _ (by omega)⟩
theorem word_not {c : UInt8} (h1 : digit c = false) (h2 : small c = false) (h3 : (c.toNat : Int) ≠ 95) : wordB c = false := by
  simp only [wordB, h1, h2, Bool.false_or, decide_eq_false_iff_not]
  omega

theorem sign_at : ∀ (k : Nat) (h : k < 15), (({ data := #[40, 41, 91, 93, 123, 125, 44, 42, 46, 63, 43, 59, 33, 38, 124] } : ByteArray)[k]'h).toNat = signs.getD k 0 := by decide
theorem sign_step (c : UInt8) (k : Nat) (h : k < 15) : (signs.getD k 0 = c.toNat → isSign c = true) := fun he => by
  unfold isSign
  rw [decide_eq_true_iff, ← he, List.getD_eq_getElem?_getD, List.getElem?_eq_getElem (show k < signs.length from h)]
  exact List.getElem_mem _
theorem sign_none (c : UInt8) (h : ∀ j, j < 15 → signs.getD j 0 ≠ c.toNat) : isSign c = false := by
  unfold isSign
  rw [decide_eq_false_iff_not]
  intro hm
  obtain ⟨j, hj, he⟩ := List.mem_iff_getElem.1 hm
  refine h j hj ?_
  rw [List.getD_eq_getElem?_getD, List.getElem?_eq_getElem hj]
  exact he

theorem get_drop (s : ByteArray) (p k : Nat) (h : p + k < s.size) : (s.data.toList.drop p)[k]? = some s[p + k] := by
  rw [List.getElem?_drop, List.getElem?_eq_getElem (by rw [Array.length_toList]; exact h)]
  rfl
theorem extract_bytes (s : ByteArray) (p n q : Nat) (h : p + n = q) : s.extract p q = bytes ((s.data.toList.drop p).take n) := by
  obtain ⟨⟨l⟩⟩ := s
  rw [ByteArray.extract_mk]
  have e : q - p = n := by omega
  rw [e]
  rfl

theorem num_facts {x y d : Nat} (hx : x < 10 ^ 4) (hd : 48 ≤ d ∧ d ≤ 57) (hy : d - 48 = y) :
    IntKind.u8.wrap ((d : Int) - 48) = (y : Int) ∧ wrap64 (y : Int) = (y : Int) ∧ wrap64 (10 * (x : Int)) = 10 * (x : Int) ∧ wrap64 (10 * (x : Int) + (y : Int)) = 10 * (x : Int) + (y : Int) := by
  have h : x < 10000 := hx
  clear hx
  refine ⟨?_, IntWalk.wrap64_in _ (by omega), IntWalk.wrap64_in _ (by omega), IntWalk.wrap64_in _ (by omega)⟩
  rw [IntKind.wrap_u8]
  omega

theorem bytes_self (s : ByteArray) : bytes s.data.toList = s := by
  obtain ⟨⟨l⟩⟩ := s
  rfl

end Go.Proofs.YtimbbfneaaglbaaGreat.Lex

/- The walks of the reference's small, digit and run. By an AI agent. -/
namespace Go.Proofs.YtimbbfneaaglbaaGreat.Lex
open Go.RowKit

end Go.Proofs.YtimbbfneaaglbaaGreat.Lex

/- The walks of the reference's Reserved and Name. By an AI agent. -/
namespace Go.Proofs.YtimbbfneaaglbaaGreat.Lex
open Go.RowKit

def words13 : List (List UInt8) := reserved ++ [[]]
theorem words_in {L : List UInt8} (hne : L ≠ []) (k : Nat) (hk : k < 13) (h : words13.getD k [] = L) : decide (L ∈ reserved) = true := by
  rw [decide_eq_true_iff]
  have hm : L ∈ words13 := by
    rw [← h, List.getD_eq_getElem?_getD, List.getElem?_eq_getElem (show k < words13.length from hk)]
    exact List.getElem_mem _
  rcases List.mem_append.1 hm with h1 | h1
  · exact h1
  · exact absurd (List.mem_singleton.1 h1) hne
theorem words_out {L : List UInt8} (h : ∀ j, j < 13 → words13.getD j [] ≠ L) : decide (L ∈ reserved) = false := by
  rw [decide_eq_false_iff_not]
  intro hm
  obtain ⟨j, hj, he⟩ := List.mem_iff_getElem.1 hm
  have hj' : j < 12 := hj
  refine h j (by omega) ?_
  rw [List.getD_eq_getElem?_getD, words13, List.getElem?_append_left hj, List.getElem?_eq_getElem hj]
  exact he
def arr13 : Array Value := #[.string { data := #[116, 114, 117, 101] }, .string { data := #[102, 97, 108, 115, 101] }, .string { data := #[112, 114, 101, 118] }, .string { data := #[110, 101, 120, 116] }, .string { data := #[111, 110, 99, 101] }, .string { data := #[104, 105, 115, 116] }, .string { data := #[115, 111, 109, 101] }, .string { data := #[97, 108, 108] }, .string { data := #[115, 105, 110, 99, 101] }, .string { data := #[117, 110, 116, 105, 108] }, .string { data := #[98, 97, 99, 107] }, .string { data := #[102, 111, 114, 101] }, .string { data := #[] }]
theorem name_not {L : List UInt8} (h : L.length = 0 ∨ 16 < L.length) : nameS L = false := by
  cases L with
  | nil => rfl
  | cons c r =>
    simp only [List.length_cons] at h
    simp only [nameS]
    rw [decide_eq_false (show ¬ r.length + 1 ≤ 16 by omega)]
    rfl
theorem name_is {c : UInt8} {r : List UInt8} (h : r.length + 1 ≤ 16) : nameS (c :: r) = (small c && decide (run true (c :: r) = r.length + 1) && !(decide (c :: r ∈ reserved))) := by
  simp only [nameS]
  rw [decide_eq_true h, Bool.true_and]

end Go.Proofs.YtimbbfneaaglbaaGreat.Lex
