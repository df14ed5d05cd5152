/-
  Tokens in plain lists of bytes. Tokens in plain lists of bytes: blanks, numbers, the laws' own texts. Tokens in plain lists of bytes: a number as it is written; one word, blanks alone. Tokens in plain lists of bytes: what each branch of a walk says of the piece that begins. Rows of tokens in memory: append of one; what a walk reads. Texts, byte by byte: what the walks share. The walks of the reference's small, digit and run. The walks of the reference's Reserved and Name.
    Made of several texts by wip/tools/mergetpl.py. By an AI agent.
  Kinds of nodes in plain arithmetic, and the reference's small functions on them. Lists of nodes that may be, as a run over the nodes with the open ones. What is told of lists of nodes, as plain functions.
    Made of several texts by wip/tools/mergetpl.py. By an AI agent.
-/
import Derived.Lib.ItoaNum
import Derived.Test.YtcpmcgbjmncalaaChecked
import Derived.WalkKit
import Derived.Below
import Derived.Laws.AppendOwn
import Derived.Lib.Hide
import Derived.Sort.OwnSorted
import Derived.WalkSpells
import Derived.WalkLawsBesides
import Derived.Lib.MinMax
import Derived.IntWalk
import Derived.OwnWalk
import Derived.Test.YtcpmcgbjmncalaaGPathsUnion4
import Derived.Test.YtcpmcgbjmncalaaGPathsUnion1
import Derived.Deep.Slices
import Derived.Deep.Fields
import Derived.ChangeSame
import Derived.ChangeArms
import Derived.ChangeSlices
import Derived.Laws.StructEq
import Derived.Deep.QuietTactic
import Derived.BigQuiet
/- Tokens in plain lists of bytes. By an AI agent. -/
namespace Go.Proofs.Ytcpmcgbjmncalaa.Lex

/-- A token: its kind (0: the end, 1: a word, 2: a number, 3: a sign), its text, its number, its place. -/
structure Tk where
  kind : Nat
  text : List UInt8
  num : Nat
  pos : Nat
deriving DecidableEq

def small (c : UInt8) : Bool := decide (97 ≤ c.toNat ∧ c.toNat ≤ 122)
def digit (c : UInt8) : Bool := decide (48 ≤ c.toNat ∧ c.toNat ≤ 57)
def wordB (c : UInt8) : Bool := digit c || small c || decide (c.toNat = 95)
def run (words : Bool) (bs : List UInt8) : Nat := (bs.takeWhile (if words then wordB else digit)).length
/-- The tokens, or the place of what is none. -/
inductive Res where
  | ok (l : List Tk)
  | bad (at' : Nat)
deriving DecidableEq

def Res.before (l : List Tk) : Res → Res
  | .ok m => .ok (l ++ m)
  | .bad p => .bad p
theorem small_word {c : UInt8} (h : small c = true) : wordB c = true := by simp [wordB, h]
theorem digit_word {c : UInt8} (h : digit c = true) : wordB c = true := by simp [wordB, h]

def reserved : List (List UInt8) := [[116, 114, 117, 101], [102, 97, 108, 115, 101], [112, 114, 101, 118], [110, 101, 120, 116], [111, 110, 99, 101], [104, 105, 115, 116], [115, 111, 109, 101], [97, 108, 108], [115, 105, 110, 99, 101], [117, 110, 116, 105, 108], [98, 97, 99, 107], [102, 111, 114, 101]]
def nameS (bs : List UInt8) : Bool :=
  match bs with
  | [] => false
  | c :: r => decide (r.length + 1 ≤ 16) && small c && decide (run true (c :: r) = r.length + 1) && !(decide (c :: r ∈ reserved))

end Go.Proofs.Ytcpmcgbjmncalaa.Lex

/- Tokens in plain lists of bytes: blanks, numbers, the laws' own texts. By an AI agent. -/
namespace Go.Proofs.Ytcpmcgbjmncalaa.Lex

/-- The tokens of the law's own table: their bytes, and what they are. -/
def table : List (List UInt8 × Nat × List UInt8 × Nat) :=
  [([97], 1, [97], 0), ([98, 50], 1, [98, 50], 0), ([111, 110, 99, 101], 1, [111, 110, 99, 101], 0), ([115, 105, 110, 99, 101], 1, [115, 105, 110, 99, 101], 0), ([102, 111, 114, 101], 1, [102, 111, 114, 101], 0),
   ([48], 2, [], 0), ([55], 2, [], 7), ([57, 57, 57, 57], 2, [], 9999), ([45, 62], 3, [45, 62], 0), ([40], 3, [40], 0), ([41], 3, [41], 0), ([91], 3, [91], 0), ([93], 3, [93], 0), ([123], 3, [123], 0), ([125], 3, [125], 0),
   ([44], 3, [44], 0), ([42], 3, [42], 0), ([46], 3, [46], 0), ([63], 3, [63], 0), ([43], 3, [43], 0), ([59], 3, [59], 0), ([33], 3, [33], 0), ([38], 3, [38], 0), ([124], 3, [124], 0), ([120, 95, 121], 1, [120, 95, 121], 0), ([116, 114, 117, 101], 1, [116, 114, 117, 101], 0)]

/-- The tokens that the numbers ns stand for, each one at its place, gaps ahead and behind. -/
def pick (n : Nat) : List UInt8 × Nat × List UInt8 × Nat := table.getD (n % 26) ([97], 1, [97], 0)
end Go.Proofs.Ytcpmcgbjmncalaa.Lex

/- Tokens in plain lists of bytes: a number as it is written; one word, blanks alone. By an AI agent. -/
namespace Go.Proofs.Ytcpmcgbjmncalaa.Lex

end Go.Proofs.Ytcpmcgbjmncalaa.Lex

/- Tokens in plain lists of bytes: what each branch of a walk says of the piece that begins. By an AI agent. -/
namespace Go.Proofs.Ytcpmcgbjmncalaa.Lex

end Go.Proofs.Ytcpmcgbjmncalaa.Lex

/- Rows of tokens in memory: append of one; what a walk reads. By an AI agent. -/
namespace Go.Proofs.Ytcpmcgbjmncalaa.Lex
open Go.RowKit

/-- The cells of a token. -/
def bytes (l : List UInt8) : ByteArray := ⟨l.toArray⟩
def cellsTk (t : Tk) : List Value := [.int .i64 (t.kind : Int), .string (bytes t.text), .int .i64 (t.num : Int), .int .i64 (t.pos : Int)]
def rowTk (l : List Tk) : List Value := l.flatMap cellsTk
theorem rowTk_at : ∀ (l : List Tk) (j : Nat) (t : Tk), l[j]? = some t → ∀ f, f < 4 → (rowTk l)[4 * j + f]? = (cellsTk t)[f]?
  | [], j, t, h, _, _ => by simp at h
  | x :: l, 0, t, h, f, hf => by
    simp only [List.getElem?_cons_zero, Option.some.injEq] at h
    subst h
    show (cellsTk x ++ rowTk l)[4 * 0 + f]? = _
    rw [Nat.mul_zero, Nat.zero_add, List.getElem?_append_left (by exact hf)]
  | x :: l, j + 1, t, h, f, hf => by
    have ih := rowTk_at l j t (by simpa using h) f hf
    show (cellsTk x ++ rowTk l)[4 * (j + 1) + f]? = _
    rw [List.getElem?_append_right (by show 4 ≤ _; omega), ← ih]
    congr 1
    show 4 * (j + 1) + f - 4 = _
    omega
/-- The slice v reads as the tokens l. -/
def Toks (w : World) (v : Value) (l : List Tk) : Prop :=
  ∃ A c, v = .slice A l.length c ∧ (∀ a, A = some a → a.block < w.heap.size) ∧
    (0 < l.length → ∃ b, A = some ⟨b, 0, none⟩ ∧ ∀ (j : Nat) (t : Tk), l[j]? = some t →
      w.cell? ⟨b, 4 * j, none⟩ = some (.int .i64 (t.kind : Int)) ∧ w.cell? ⟨b, 4 * j + 1, none⟩ = some (.string (bytes t.text)) ∧ w.cell? ⟨b, 4 * j + 2, none⟩ = some (.int .i64 (t.num : Int)) ∧ w.cell? ⟨b, 4 * j + 3, none⟩ = some (.int .i64 (t.pos : Int)))
theorem keepc {w w' : World} {b o : Nat} {u : Value} (hb : Below w.heap.size w w') (hlt : b < w.heap.size) (h : w.cell? ⟨b, o, none⟩ = some u) : w'.cell? ⟨b, o, none⟩ = some u :=
  (hb.cell (show (⟨b, o, none⟩ : Addr).block < w.heap.size from hlt)).trans h
theorem Toks.keep {w w' : World} {v : Value} {l : List Tk} (h : Toks w v l) (hb : Below w.heap.size w w') : Toks w' v l := by
  obtain ⟨A, c, h1, h2, h3⟩ := h
  refine ⟨A, c, h1, fun a ha => Nat.lt_of_lt_of_le (h2 a ha) hb.size, fun h0 => ?_⟩
  obtain ⟨b, h4, h5⟩ := h3 h0
  have hlt : b < w.heap.size := h2 _ h4
  refine ⟨b, h4, fun j t ht => ?_⟩
  obtain ⟨c1, c2, c3, c4⟩ := h5 j t ht
  exact ⟨keepc hb hlt c1, keepc hb hlt c2, keepc hb hlt c3, keepc hb hlt c4⟩
theorem Toks.own {w : World} {base : Nat} {e : TypeId} {v : Value} {l : List Tk} (h : w.ownsRow base e 4 v l.length (rowTk l)) : Toks w v l := by
  have hlt := h.lt
  have h' := h
  rcases h.2 with ⟨rfl, h0⟩ | ⟨g, cap, cur, rfl, _, _, h3, h4, _⟩
  · exact ⟨none, 0, by rw [h0], fun a ha => by (cases ha), fun hp => by omega⟩
  · refine ⟨_, cap, rfl, fun a ha => by injection ha with ha; subst ha; exact (hlt g rfl).2, fun _ => ⟨g, rfl, fun j t ht => ?_⟩⟩
    have hj : j < l.length := (List.getElem?_eq_some_iff.1 ht).1
    have key : ∀ f, f < 4 → w.cell? ⟨g, 4 * j + f, none⟩ = (cellsTk t)[f]? := fun f hf => by
      rw [h'.cellAt (4 * j + f) (by omega)]
      exact rowTk_at l j t ht f hf
    exact ⟨key 0 (by omega), key 1 (by omega), key 2 (by omega), key 3 (by omega)⟩

section
variable {P : Program} {w : World}
end
end Go.Proofs.Ytcpmcgbjmncalaa.Lex

/- Texts, byte by byte: what the walks share. By an AI agent. -/
namespace Go.Proofs.Ytcpmcgbjmncalaa.Lex
open Go.RowKit

theorem run_yes {words : Bool} {c : UInt8} {r : List UInt8} (h : (if words then wordB else digit) c = true) : run words (c :: r) = run words r + 1 := by
  unfold run
  rw [List.takeWhile_cons_of_pos h]
  rfl
theorem run_no {words : Bool} {c : UInt8} {r : List UInt8} (h : (if words then wordB else digit) c = false) : run words (c :: r) = 0 := by
  unfold run
  rw [List.takeWhile_cons_of_neg (by rw [h]; decide)]
  rfl
theorem drop_get (s : ByteArray) (q : Nat) (h : q < s.size) : s.data.toList.drop q = s[q] :: s.data.toList.drop (q + 1) := by
  have hl : q < s.data.toList.length := by rw [Array.length_toList]; exact h
  rw [List.drop_eq_getElem_cons hl]
  rfl
theorem drop_end (s : ByteArray) (q : Nat) (h : s.size ≤ q) : s.data.toList.drop q = [] := List.drop_eq_nil_of_le (by rw [Array.length_toList]; exact h)
theorem add64 {p n q : Nat} (h : p + n = q) (hq : q ≤ 9223372036854775807) : IntKind.i64.wrap ((p : Int) + (n : Int)) = (q : Int) ∧ wrap64 ((p : Int) + (n : Int)) = (q : Int) := by
  subst h
  rw [← Int.natCast_add]
  exact ⟨IntWalk.i64_in _ (by omega), IntWalk.wrap64_in _ (by omega)⟩
theorem word_not {c : UInt8} (h1 : digit c = false) (h2 : small c = false) (h3 : (c.toNat : Int) ≠ 95) : wordB c = false := by
  simp only [wordB, h1, h2, Bool.false_or, decide_eq_false_iff_not]
  omega

end Go.Proofs.Ytcpmcgbjmncalaa.Lex

/- The walks of the reference's small, digit and run. By an AI agent. -/
namespace Go.Proofs.Ytcpmcgbjmncalaa.Lex
open Go.RowKit

end Go.Proofs.Ytcpmcgbjmncalaa.Lex

/- The walks of the reference's Reserved and Name. By an AI agent. -/
namespace Go.Proofs.Ytcpmcgbjmncalaa.Lex
open Go.RowKit

def words13 : List (List UInt8) := reserved ++ [[]]
theorem words_in {L : List UInt8} (hne : L ≠ []) (k : Nat) (hk : k < 13) (h : words13.getD k [] = L) : decide (L ∈ reserved) = true := by
  rw [decide_eq_true_iff]
  have hm : L ∈ words13 := by
    rw [← h, List.getD_eq_getElem?_getD, List.getElem?_eq_getElem (show k < words13.length from hk)]
    exact List.getElem_mem _
  rcases List.mem_append.1 hm with h1 | h1
  · exact h1
  · exact absurd (List.mem_singleton.1 h1) hne
theorem words_out {L : List UInt8} (h : ∀ j, j < 13 → words13.getD j [] ≠ L) : decide (L ∈ reserved) = false := by
  rw [decide_eq_false_iff_not]
  intro hm
  obtain ⟨j, hj, he⟩ := List.mem_iff_getElem.1 hm
  have hj' : j < 12 := hj
  refine h j (by omega) ?_
  rw [List.getD_eq_getElem?_getD, words13, List.getElem?_append_left hj, List.getElem?_eq_getElem hj]
  exact he
def arr13 : Array Value := #[.string { data := #[116, 114, 117, 101] }, .string { data := #[102, 97, 108, 115, 101] }, .string { data := #[112, 114, 101, 118] }, .string { data := #[110, 101, 120, 116] }, .string { data := #[111, 110, 99, 101] }, .string { data := #[104, 105, 115, 116] }, .string { data := #[115, 111, 109, 101] }, .string { data := #[97, 108, 108] }, .string { data := #[115, 105, 110, 99, 101] }, .string { data := #[117, 110, 116, 105, 108] }, .string { data := #[98, 97, 99, 107] }, .string { data := #[102, 111, 114, 101] }, .string { data := #[] }]
theorem name_not {L : List UInt8} (h : L.length = 0 ∨ 16 < L.length) : nameS L = false := by
  cases L with
  | nil => rfl
  | cons c r =>
    simp only [List.length_cons] at h
    simp only [nameS]
    rw [decide_eq_false (show ¬ r.length + 1 ≤ 16 by omega)]
    rfl
theorem name_is {c : UInt8} {r : List UInt8} (h : r.length + 1 ≤ 16) : nameS (c :: r) = (small c && decide (run true (c :: r) = r.length + 1) && !(decide (c :: r ∈ reserved))) := by
  simp only [nameS]
  rw [decide_eq_true h, Bool.true_and]

end Go.Proofs.Ytcpmcgbjmncalaa.Lex

/- Kinds of nodes in plain arithmetic, and the reference's small functions on them. By an AI agent. -/
namespace Go.Proofs.Ytcpmcgbjmncalaa.Tree
open Go.RowKit

def none0 : List Int := [1, 2, 3, 18]
def twos : List Int := [5, 6, 7, 14, 15, 20, 21]
/-- How many kids a kind has; -1: it is none. -/
def arity (k : Int) : Int := if k ∈ none0 then 0 else if k ∈ twos then 2 else if k < 1 ∨ 22 < k then -1 else 1
def formKind (k : Int) : Bool := decide (1 ≤ k ∧ k ≤ 17)
def timed (k : Int) : Bool := decide (8 ≤ k ∧ k ≤ 17)
def regs : List Int := [16, 17, 20, 21, 22]
def fits (k c : Int) : Bool := if k ∈ regs then !(formKind c) else formKind c

theorem arity_ways (k : Int) : (k = 1 ∨ k = 2 ∨ k = 3 ∨ k = 18) ∨ (k = 5 ∨ k = 6 ∨ k = 7 ∨ k = 14 ∨ k = 15 ∨ k = 20 ∨ k = 21) ∨
    ((k == 1) = false ∧ (k == 2) = false ∧ (k == 3) = false ∧ (k == 18) = false ∧ (k == 5) = false ∧ (k == 6) = false ∧ (k == 7) = false ∧ (k == 14) = false ∧ (k == 15) = false ∧ (k == 20) = false ∧ (k == 21) = false ∧
      arity k = if k < 1 ∨ 22 < k then -1 else 1) := by
  by_cases h1 : k = 1 ∨ k = 2 ∨ k = 3 ∨ k = 18
  · exact Or.inl h1
  · by_cases h2 : k = 5 ∨ k = 6 ∨ k = 7 ∨ k = 14 ∨ k = 15 ∨ k = 20 ∨ k = 21
    · exact Or.inr (Or.inl h2)
    · refine Or.inr (Or.inr ?_)
      simp only [beq_eq_false_iff_ne]
      refine ⟨by omega, by omega, by omega, by omega, by omega, by omega, by omega, by omega, by omega, by omega, by omega, ?_⟩
      unfold arity
      rw [if_neg (by simp only [none0, List.mem_cons, List.not_mem_nil, or_false]; exact h1), if_neg (by simp only [twos, List.mem_cons, List.not_mem_nil, or_false]; exact h2)]

end Go.Proofs.Ytcpmcgbjmncalaa.Tree
/- Lists of nodes that may be, as a run over the nodes with the open ones. By an AI agent. -/
namespace Go.Proofs.Ytcpmcgbjmncalaa.Tree
open Go.RowKit

def okShape (n : Nd) (have_ : Nat) : Bool :=
  decide (0 ≤ arity n.kind) && (decide ((n.kids.length : Int) = arity n.kind) && (decide (arity n.kind ≤ have_) && ((decide (n.kind ≠ 3) || Lex.nameS n.name.data.toList) && (decide (n.kind = 3) || decide (n.name.data.toList = [])))))
def okSpan (n : Nd) : Bool := if timed n.kind then Ival.mayS n.lo n.hi else decide (n.lo = 0 ∧ n.hi = 0)
def okKid (l : List Nd) (n : Nd) (k : Int) (t : Nat) : Bool := decide (k = (t : Int)) && fits n.kind ((l[t]?.map (·.kind)).getD 0)
def okKids (l : List Nd) (n : Nd) : List Int → List Nat → Bool
  | k :: ks, t :: ts => okKid l n k t && okKids l n ks ts
  | [], [] => true
  | _, _ => false
def mayStep (l : List Nd) (st : List Nat) (i : Nat) : Option (List Nat) :=
  match l[i]? with
  | none => none
  | some n => if okShape n st.length = true ∧ okSpan n = true ∧ okKids l n n.kids (st.drop (st.length - n.kids.length)) = true then some (st.take (st.length - n.kids.length) ++ [i]) else none
def mayUpTo (l : List Nd) : Nat → Option (List Nat)
  | 0 => some []
  | i + 1 => (mayUpTo l i).bind fun st => mayStep l st i
def mayL (l : List Nd) : Bool :=
  match mayUpTo l l.length with
  | some st => decide (st.length = 1)
  | none => false

theorem upTo_none (l : List Nd) (i : Nat) (h : mayUpTo l i = none) : ∀ j, i ≤ j → mayUpTo l j = none := by
  intro j hj
  induction j with
  | zero =>
    have : i = 0 := by omega
    subst this; exact h
  | succ j ih =>
    by_cases he : i = j + 1
    · subst he; exact h
    · rw [mayUpTo, ih (by omega)]
      rfl
theorem may_stop {l : List Nd} {i : Nat} {st : List Nat} (h : mayUpTo l i = some st) (hi : i < l.length) (hs : mayStep l st i = none) : mayL l = false := by
  have h1 : mayUpTo l (i + 1) = none := by rw [mayUpTo, h]; exact hs
  have h2 := upTo_none l (i + 1) h1 l.length (by omega)
  unfold mayL
  rw [h2]
theorem may_end {l : List Nd} {st : List Nat} (h : mayUpTo l l.length = some st) : mayL l = decide (st.length = 1) := by
  unfold mayL
  rw [h]
theorem may_go {l : List Nd} {i : Nat} {st st' : List Nat} (h : mayUpTo l i = some st) (hs : mayStep l st i = some st') : mayUpTo l (i + 1) = some st' := by
  rw [mayUpTo, h]; exact hs
theorem upTo_lt (l : List Nd) : ∀ (i : Nat) (st : List Nat), mayUpTo l i = some st → (∀ x ∈ st, x < i) ∧ st.length ≤ i := by
  intro i
  induction i with
  | zero => intro st h; cases h; simp
  | succ i ih =>
    intro st h
    rw [mayUpTo] at h
    obtain ⟨s0, h1, h2⟩ := Option.bind_eq_some_iff.1 h
    obtain ⟨a, b⟩ := ih s0 h1
    unfold mayStep at h2
    split at h2
    · cases h2
    · split at h2
      · cases h2
        refine ⟨fun x hx => ?_, ?_⟩
        · rcases List.mem_append.1 hx with hx | hx
          · have := a x (List.mem_of_mem_take hx); omega
          · rw [List.mem_singleton.1 hx]; omega
        · simp only [List.length_append, List.length_take, List.length_singleton]
          omega
      · cases h2
theorem okKids_at {l : List Nd} {n : Nd} : ∀ (ks : List Int) (ts : List Nat), ks.length = ts.length → (okKids l n ks ts = true ↔ ∀ (j : Nat) (k : Int) (t : Nat), ks[j]? = some k → ts[j]? = some t → okKid l n k t = true)
  | [], [], _ => by simp [okKids]
  | k :: ks, t :: ts, h => by
    have ih := okKids_at (l := l) (n := n) ks ts (by simpa using h)
    simp only [okKids, Bool.and_eq_true, ih]
    constructor
    · rintro ⟨h1, h2⟩ j x y hx hy
      cases j with
      | zero => simp only [List.getElem?_cons_zero, Option.some.injEq] at hx hy; subst hx; subst hy; exact h1
      | succ j => exact h2 j x y (by simpa using hx) (by simpa using hy)
    · intro h1
      exact ⟨h1 0 k t rfl rfl, fun j x y hx hy => h1 (j + 1) x y (by simpa using hx) (by simpa using hy)⟩
  | [], _ :: _, h => by simp at h
  | _ :: _, [], h => by simp at h
theorem okKids_bad {l : List Nd} {n : Nd} {ks : List Int} {ts : List Nat} (j : Nat) {k : Int} {t : Nat} (h1 : ks[j]? = some k) (h2 : ts[j]? = some t) (h : okKid l n k t = false) : okKids l n ks ts = false := by
  rcases hb : okKids l n ks ts
  · rfl
  · by_cases hl : ks.length = ts.length
    · have := (okKids_at ks ts hl).1 hb j k t h1 h2
      rw [h] at this
      cases this
    · exfalso
      clear h1 h2 h
      revert hb hl
      induction ks generalizing ts with
      | nil => cases ts with
        | nil => simp
        | cons t ts => simp [okKids]
      | cons k ks ih => cases ts with
        | nil => simp [okKids]
        | cons t ts =>
          simp only [okKids, Bool.and_eq_true, List.length_cons]
          intro hb hl
          exact ih hb.2 (by omega)
end Go.Proofs.Ytcpmcgbjmncalaa.Tree

/- What is told of lists of nodes, as plain functions. By an AI agent. -/
namespace Go.Proofs.Ytcpmcgbjmncalaa.Tree
open Go.RowKit


/-! ### a list that may be: its kids stand ahead -/
theorem may_all {l : List Nd} (h : mayL l = true) : ∃ st, mayUpTo l l.length = some st ∧ st.length = 1 := by
  unfold mayL at h
  cases hs : mayUpTo l l.length with
  | none => rw [hs] at h; cases h
  | some st => rw [hs] at h; exact ⟨st, rfl, of_decide_eq_true h⟩
theorem upTo_some {l : List Nd} {i : Nat} (h : (mayUpTo l l.length).isSome = true) (hi : i ≤ l.length) : ∃ st, mayUpTo l i = some st := by
  cases hs : mayUpTo l i with
  | some st => exact ⟨st, rfl⟩
  | none =>
    rw [upTo_none l i hs l.length hi] at h
    cases h
theorem may_ne {l : List Nd} (h : mayL l = true) : 0 < l.length := by
  obtain ⟨st, h1, h2⟩ := may_all h
  have := (upTo_lt l l.length st h1).2
  omega
/-- What a step asks of a node. -/
theorem may_node {l : List Nd} (h : mayL l = true) {i : Nat} {n : Nd} (hi : l[i]? = some n) :
    ∃ st, mayUpTo l i = some st ∧ okShape n st.length = true ∧ okSpan n = true ∧ okKids l n n.kids (st.drop (st.length - n.kids.length)) = true := by
  obtain ⟨s, h1, -⟩ := may_all h
  have hlt : i < l.length := (List.getElem?_eq_some_iff.1 hi).1
  obtain ⟨st, hst⟩ := upTo_some (l := l) (i := i) (by rw [h1]; rfl) (Nat.le_of_lt hlt)
  obtain ⟨st', hst'⟩ := upTo_some (l := l) (i := i + 1) (by rw [h1]; rfl) hlt
  rw [mayUpTo, hst] at hst'
  have hs : mayStep l st i = some st' := hst'
  unfold mayStep at hs
  rw [hi] at hs
  simp only at hs
  split at hs
  · rename_i hc; exact ⟨st, hst, hc⟩
  · cases hs
theorem shape_parts {n : Nd} {k : Nat} (h : okShape n k = true) : 0 ≤ arity n.kind ∧ (n.kids.length : Int) = arity n.kind ∧ n.kids.length ≤ k ∧ (n.kind = 3 → Lex.nameS n.name.data.toList = true) ∧ (n.kind ≠ 3 → n.name.data.toList = []) := by
  unfold okShape at h
  simp only [Bool.and_eq_true, Bool.or_eq_true, decide_eq_true_eq] at h
  obtain ⟨h1, h2, h3, h4, h5⟩ := h
  refine ⟨h1, h2, by omega, fun h3 => h4.resolve_left (fun x => x h3), fun h3 => h5.resolve_left h3⟩
/-- The kids of a node of a list that may be stand ahead of it. -/
theorem may_kids {l : List Nd} (h : mayL l = true) {i : Nat} {n : Nd} (hi : l[i]? = some n) : ∀ k ∈ n.kids, 0 ≤ k ∧ k < (i : Int) := by
  obtain ⟨st, h1, h2, h3, h4⟩ := may_node h hi
  have hlt := (upTo_lt l i st h1).1
  have hk := (shape_parts h2).2.2.1
  intro k hm
  obtain ⟨j, hj, rfl⟩ := List.getElem_of_mem hm
  have hl : n.kids.length = (st.drop (st.length - n.kids.length)).length := by rw [List.length_drop]; omega
  have hj2 : j < (st.drop (st.length - n.kids.length)).length := by omega
  have := (okKids_at _ _ hl).1 h4 j _ _ (List.getElem?_eq_getElem hj) (List.getElem?_eq_getElem hj2)
  unfold okKid at this
  simp only [Bool.and_eq_true, decide_eq_true_eq] at this
  have h5 := hlt _ (List.mem_of_mem_drop (List.getElem_mem hj2))
  rw [this.1]
  omega
theorem may_arity {l : List Nd} (h : mayL l = true) {i : Nat} {n : Nd} (hi : l[i]? = some n) : n.kids.length ≤ 2 := by
  obtain ⟨st, h1, h2, -, -⟩ := may_node h hi
  obtain ⟨-, h3, -⟩ := shape_parts h2
  unfold arity at h3
  split at h3
  · omega
  · split at h3
    · omega
    · split at h3 <;> omega

theorem kid_nat {l : List Nd} (h : mayL l = true) {i : Nat} {n : Nd} (hi : l[i]? = some n) {j : Nat} (hj : j < n.kids.length) : ∃ t : Nat, n.kids[j]?.getD 0 = (t : Int) ∧ t < i ∧ n.kids.take (j + 1) = n.kids.take j ++ [(t : Int)] := by
  have := may_kids h hi n.kids[j] (List.getElem_mem hj)
  obtain ⟨t, ht⟩ := Int.eq_ofNat_of_zero_le this.1
  refine ⟨t, by rw [List.getElem?_eq_getElem hj]; exact ht, by omega, ?_⟩
  rw [List.take_succ_eq_append_getElem hj, ht]

/-! ### the functions -/
def lastKind (l : List Nd) : Int := (l.getLast?.map (·.kind)).getD 0
def regL (l : List Nd) : Bool := mayL l && !formKind (lastKind l)
def sweet (k : Int) : Bool := decide (k = 7) || decide (8 ≤ k ∧ k ≤ 15)
/-- Where what is below a node begins. -/
def startF (l : List Nd) : Nat → Nat → Nat
  | 0, i => i
  | f + 1, i => match l[i]? with
    | none => i
    | some n => match n.kids with
      | [] => i
      | k :: _ => startF l f k.toNat
def startL (l : List Nd) (i : Nat) : Nat := startF l (i + 1) i
def shiftNd (d : Int) (n : Nd) : Nd := { n with kids := n.kids.map (· + d) }
def partL (l : List Nd) (i : Int) : List Nd :=
  if mayL l = true ∧ 0 ≤ i ∧ i < l.length then ((l.take (i.toNat + 1)).drop (startL l i.toNat)).map (shiftNd (-(startL l i.toNat : Int))) else []
def overL (n : Nd) (a b : List Nd) : List Nd :=
  a ++ b.map (shiftNd a.length) ++ [{ n with kids := (if a = [] then [] else [(a.length : Int) - 1]) ++ (if b = [] then [] else [(a.length : Int) + b.length - 1]) }]
end Go.Proofs.Ytcpmcgbjmncalaa.Tree
