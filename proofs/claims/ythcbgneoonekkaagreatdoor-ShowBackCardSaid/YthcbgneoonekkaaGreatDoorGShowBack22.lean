/-
  The walk of the laws' awake. By an AI agent.
  The landed reader of formulas in plain lists: what is open, what was made, token by token. By an AI agent.
  Tokens: what the walks of package lex and of the reference share. By an AI agent.
  The landed reader in memory: its block, its tokens, its three rows, apart from each other. By an AI agent.
-/
import Derived.Test.YthcbgneoonekkaaGreatDoorGShowBack16
import Derived.Test.YthcbgneoonekkaaGreatDoorGShowBack18
import Derived.Test.YthcbgneoonekkaaGreatDoorGShowBack21
import Derived.Test.YthcbgneoonekkaaGreatDoorGShowBack2
import Derived.Test.YthcbgneoonekkaaGreatDoorGShowBack3
import Derived.Test.YthcbgneoonekkaaGreatDoorGShowBack8
namespace Go.Proofs.YthcbgneoonekkaaGreatDoor.Show
open Go.RowKit Go.Proofs.YthcbgneoonekkaaGreatDoor.Tree Go.Proofs.YthcbgneoonekkaaGreatDoor.Itoa Go.Proofs.YthcbgneoonekkaaGreatDoor.Ints

theorem awake_text : textL awakeL = [33, 112] := by decide
theorem awake_nest : nestL awakeL = 1 := by decide
set_option maxHeartbeats 4000000 in
set_option maxRecDepth 100000 in
theorem awake (w : World) (hT : Tabs w) :
    Calls Tryz.prog 11 #[] w fun e w' => e = .returned (.bool true) ∧ Below w.heap.size w w' := by
  have HN0 := Lib.hid (awake_nodes w 3 42)
  have HT := Lib.hid (fun W (hb : Below w.heap.size w W) => hT.later hb)
  clear hT
  go_enter Tryz.func11, Tryz.ntmps11
  go_wp2_with fail
  have HB0 := Lib.hid (show Below w.heap.size w ((w.alloc (.cells #[.int .i64 0] 3)).alloc (.cells #[.int .i64 3, .string { data := #[112] }, .int .i64 0, .int .i64 0, .slice none 0 0, .int .i64 4, .string { data := #[] }, .int .i64 0, .int .i64 0, .slice (some ⟨w.heap.size, 0, none⟩) 1 1] 42)) from ((Below.refl _ _).alloc (Nat.le_refl _) _).alloc (le_alloc (Nat.le_refl _)) _)
  generalize (w.alloc (.cells #[.int .i64 0] 3)).alloc (.cells #[.int .i64 3, .string { data := #[112] }, .int .i64 0, .int .i64 0, .slice none 0 0, .int .i64 4, .string { data := #[] }, .int .i64 0, .int .i64 0, .slice (some ⟨w.heap.size, 0, none⟩) 1 1] 42) = W0 at HN0 HB0 ⊢
  have h1 := landText (some ⟨w.heap.size + 1, 0, none⟩) 2 2 awakeL W0 rfl (by decide) HN0.out (HT.out _ HB0.out)
  rw [awake_text, show Lex.bytes [33, 112] = { data := #[33, 112] } from rfl] at h1
  refine h1.mono ?_
  rintro e w1 ⟨rfl, hb1⟩
  clear h1
  have HB1 := Lib.hid hb1
  clear hb1
  go_wp2_with fail
  have h1 := landNest (some ⟨w.heap.size + 1, 0, none⟩) 2 2 awakeL w1 rfl (by decide) (HN0.out.below HB1.out)
  rw [awake_nest] at h1
  refine h1.mono ?_
  rintro e w2 ⟨rfl, hb2⟩
  clear h1
  have HB2 := Lib.hid (HB1.out.trans (hb2.mono HB1.out.size))
  clear hb2
  go_wp2_with fail
  go_ret
  exact ⟨rfl, HB0.out.trans (HB2.out.mono HB0.out.size)⟩
end Go.Proofs.YthcbgneoonekkaaGreatDoor.Show

namespace Go.Proofs.YthcbgneoonekkaaGreatDoor.Parse
open Go.Proofs.YthcbgneoonekkaaGreatDoor.Lex Go.Proofs.YthcbgneoonekkaaGreatDoor.Tree

/-- What waits for what belongs to it. -/
structure Ent where
  kind : Nat
  lo : Int
  hi : Int
  kids : Nat
  level : Nat
  closer : List UInt8
  reg : Bool
  depth : Nat
/-- The reader: the tokens to come, whether an operand ends here, how many nodes were counted; what is open (the innermost first), the nodes, those that are no kid (the last one first). -/
structure PS where
  rest : List Tk
  ended : Bool
  made : Nat
  opn : List Ent
  nodes : List Nd
  roots : List Int

def posOf : List Tk → Nat
  | [] => 0
  | t :: _ => t.pos
def textOf : List Tk → List UInt8
  | [] => []
  | t :: _ => t.text
def kindOf : List Tk → Nat
  | [] => 0
  | t :: _ => t.kind
def numAt : List Tk → Nat
  | [] => 0
  | t :: _ => t.num
abbrev Fail := Nat × Nat
def ent0 (reg : Bool) : Ent := ⟨0, 0, 0, 0, 0, [], reg, 0⟩
def topE (o : List Ent) : Ent := o.headD (ent0 false)

def aheadK (t : List UInt8) : Nat :=
  if t = [33] then 4 else if t = [112, 114, 101, 118] then 8 else if t = [110, 101, 120, 116] then 9 else if t = [111, 110, 99, 101] then 10
  else if t = [104, 105, 115, 116] then 11 else if t = [115, 111, 109, 101] then 12 else if t = [97, 108, 108] then 13 else 0
/-- The kind of an operator ahead of its operand. -/
def preOf (g : Bool) (t : List UInt8) : Nat := if g = true then (if t = [63] then 19 else 0) else aheadK t
/-- The operand that a token is by itself. -/
def leafOf (g : Bool) (t : List UInt8) : Option Nd :=
  if g = true then (if t = [46] then some ⟨18, ⟨#[]⟩, 0, 0, []⟩ else none)
  else if t = [116, 114, 117, 101] then some ⟨1, ⟨#[]⟩, 0, 0, []⟩
  else if t = [102, 97, 108, 115, 101] then some ⟨2, ⟨#[]⟩, 0, 0, []⟩
  else if nameS t = true then some ⟨3, Lex.bytes t, 0, 0, []⟩ else none
/-- Back and fore. -/
def braceOf (g : Bool) (t : List UInt8) : Nat := if g = true then 0 else if t = [98, 97, 99, 107] then 16 else if t = [102, 111, 114, 101] then 17 else 0
/-- The kind of an operator between operands, and how tightly it holds them. -/
def betwK (g : Bool) (t : List UInt8) : Nat × Nat :=
  if g = true then (if t = [43] then (20, 1) else if t = [59] then (21, 2) else (0, 0))
  else if t = [45, 62] then (7, 1) else if t = [124] then (6, 2) else if t = [38] then (5, 3)
  else if t = [115, 105, 110, 99, 101] then (14, 4) else if t = [117, 110, 116, 105, 108] then (15, 4) else (0, 0)

/-- The interval of a kind, if there is one: its ends, and what comes behind it. -/
def spanM (k : Nat) (r : List Tk) : Except Fail (Int × Int × List Tk) :=
  if k < 8 ∨ 17 < k then .ok (0, 0, r)
  else if textOf r ≠ [91] then .ok (0, -1, r)
  else let r1 := r.tail
    if kindOf r1 ≠ 2 then .error (2, posOf r1)
    else let lo := numAt r1
      let r2 := r1.tail
      if textOf r2 ≠ [44] then .error (2, posOf r2)
      else let r3 := r2.tail
        if textOf r3 = [42] then (let r4 := r3.tail; if textOf r4 ≠ [93] then .error (2, posOf r4) else .ok ((lo : Int), -1, r4.tail))
        else if kindOf r3 ≠ 2 ∨ numAt r3 < lo then .error (2, posOf r3)
        else (let r4 := r3.tail; if textOf r4 ≠ [93] then .error (2, posOf r4) else .ok ((lo : Int), (numAt r3 : Int), r4.tail))

/-- A node over the last k that are no kid. -/
def putM (n : Nd) (k : Nat) (σ : PS) : PS := { σ with nodes := σ.nodes ++ [{ n with kids := (σ.roots.take k).reverse }], roots := (σ.nodes.length : Int) :: σ.roots.drop k }
def entNd (x : Ent) : Nd := ⟨x.kind, ⟨#[]⟩, x.lo, x.hi, []⟩
/-- The innermost, x, is whole. -/
def popX (x : Ent) (K : List Ent) (σ : PS) : PS := if x.kind = 0 then { σ with opn := K } else putM (entNd x) x.kids { σ with opn := K }
def popM (σ : PS) : PS := match σ.opn with
  | [] => σ
  | x :: K => popX x K σ
/-- All that holds as tightly as lev, or more, is whole. -/
def finL (lev : Nat) : List Ent → PS → PS
  | [], σ => σ
  | x :: K, σ => if lev ≤ x.level then finL lev K (popX x K σ) else σ
def finM (lev : Nat) (σ : PS) : PS := finL lev σ.opn σ
def endM (σ : PS) : PS := { finM 5 σ with ended := true }
def makeM (σ : PS) : Except Fail PS := if σ.made = 200 then .error (4, posOf σ.rest) else .ok { σ with made := σ.made + 1 }
def next (σ : PS) : PS := { σ with rest := σ.rest.tail }
def pushM (x : Ent) (σ : PS) : PS := { σ with opn := x :: σ.opn }

def leafM (n : Nd) (σ : PS) : Except Fail PS := match makeM σ with
  | .error e => .error e
  | .ok σ => .ok (endM (putM n 0 (next σ)))
def aheadM (k : Nat) (σ : PS) : Except Fail PS :=
  if k = 0 then .error (2, posOf σ.rest)
  else if (topE σ.opn).depth = 40 then .error (3, posOf σ.rest)
  else match makeM σ with
    | .error e => .error e
    | .ok σ => match spanM k σ.rest.tail with
      | .error e => .error e
      | .ok (lo, hi, r) => .ok (pushM ⟨k, lo, hi, 1, 5, [], false, (topE σ.opn).depth + 1⟩ { σ with rest := r })
def bracketM (x : Ent) (σ : PS) : Except Fail PS :=
  if (topE σ.opn).depth = 40 then .error (3, posOf σ.rest) else .ok (pushM { x with depth := (topE σ.opn).depth + 1 } (next σ))
def bracesM (k : Nat) (σ : PS) : Except Fail PS := match makeM σ with
  | .error e => .error e
  | .ok σ => match spanM k σ.rest.tail with
    | .error e => .error e
    | .ok (lo, hi, r) => if textOf r ≠ [123] then .error (2, posOf r) else bracketM ⟨k, lo, hi, 1, 0, [125], true, 0⟩ { σ with rest := r }
def operatorM (k lev : Nat) (σ : PS) : Except Fail PS := match makeM σ with
  | .error e => .error e
  | .ok σ => match spanM k σ.rest.tail with
    | .error e => .error e
    | .ok (lo, hi, r) => let σ := finM lev { σ with rest := r }
      .ok { pushM ⟨k, lo, hi, 2, lev, [], (topE σ.opn).reg, (topE σ.opn).depth⟩ σ with ended := false }
def starM (σ : PS) : Except Fail PS := match makeM σ with
  | .error e => .error e
  | .ok σ => .ok (putM ⟨22, ⟨#[]⟩, 0, 0, []⟩ 1 (next σ))
def shutM (σ : PS) : Except Fail PS :=
  let σ := finM 1 σ
  if kindOf σ.rest ≠ 3 ∨ textOf σ.rest ≠ (topE σ.opn).closer then .error (2, posOf σ.rest) else .ok (endM (popM (next σ)))
/-- A token with which an operand begins. -/
def beginM (g : Bool) (σ : PS) : Except Fail PS := match leafOf g (textOf σ.rest) with
  | some n => leafM n σ
  | none => if textOf σ.rest = [40] then bracketM ⟨0, 0, 0, 0, 0, [41], g, 0⟩ σ
    else if braceOf g (textOf σ.rest) ≠ 0 then bracesM (braceOf g (textOf σ.rest)) σ
    else aheadM (preOf g (textOf σ.rest)) σ
/-- A token behind an operand. -/
def behindM (σ : PS) : Except Fail PS :=
  let g := (topE σ.opn).reg
  let b := betwK g (textOf σ.rest)
  if b.1 ≠ 0 then operatorM b.1 b.2 σ
  else if g = true ∧ textOf σ.rest = [42] then starM σ
  else shutM σ
def stepM (σ : PS) : Except Fail PS := if σ.ended = true then behindM σ else beginM (topE σ.opn).reg σ

def stops (σ : PS) : Prop := σ.ended = true ∧ kindOf σ.rest = 0
instance (σ : PS) : Decidable (stops σ) := inferInstanceAs (Decidable (_ ∧ _))
def runF : Nat → PS → Except Fail PS
  | 0, σ => if stops σ then .ok σ else .error (2, posOf σ.rest)
  | f + 1, σ => if stops σ then .ok σ else match stepM σ with
    | .error e => .error e
    | .ok σ => runF f σ
/-- The whole text is read. -/
def wholeM (r : Except Fail PS) : Except Fail PS := match r with
  | .error e => .error e
  | .ok σ => let σ := finM 1 σ
    if 1 < σ.opn.length then .error (2, posOf σ.rest) else .ok σ
def start (g : Bool) (ts : List Tk) : PS := ⟨ts, false, 0, [ent0 g], [], []⟩
def allM (g : Bool) (ts : List Tk) : Except Fail PS := wholeM (runF (ts.length + 1) (start g ts))
def outM (r : Except Fail PS) : List Nd × Nat × Nat := match r with
  | .error e => ([], e.2, e.1)
  | .ok σ => (σ.nodes, 0, 0)
/-- What a text is, as a formula (g: as a regular expression): the nodes, the place, the error. -/
def parseS (g : Bool) (bs : List UInt8) : List Nd × Nat × Nat :=
  if (lexS bs).2.2 ≠ 0 then ([], (lexS bs).2.1, (lexS bs).2.2) else outM (allM g (lexS bs).1)

theorem awake1 : (parseS false [111, 110, 99, 101, 91, 50, 44, 53, 93, 32, 112, 32, 38, 32, 113]).2 = (0, 0) ∧ (parseS false [111, 110, 99, 101, 91, 50, 44, 53, 93, 32, 112, 32, 38, 32, 113]).1.map (·.kind) = [3, 10, 3, 5] := by decide +kernel
theorem awake2 : (parseS true [112, 32, 113]).2 = (0, 2) ∧ (parseS true [112, 32, 113]).1.map (·.kind) = [] := by decide +kernel
end Go.Proofs.YthcbgneoonekkaaGreatDoor.Parse

namespace Go.Proofs.YthcbgneoonekkaaGreatDoor.Lex
open Go.RowKit

theorem infoTok : (Tryz.prog.info? 75).map (fun i => (i.zero, i.size, i.bytes)) = some (some (.agg #[.int .i64 0, .string { data := #[] }, .int .i64 0, .int .i64 0]), 4, 40) := by kernel_rfl
/-- What a walk of Lex leaves: the tokens, the place, the error. -/
def LexPost (w : World) (L : List UInt8) (e : Ending) (w' : World) : Prop :=
  ∃ v, e = .returned (.tuple #[v, .int .i64 ((lexS L).2.1 : Int), .int .i64 ((lexS L).2.2 : Int)]) ∧ w'.ownsRow w.heap.size 75 4 v (lexS L).1.length (rowTk (lexS L).1) ∧ Below w.heap.size w w'
theorem post_bad {w w' : World} {L : List UInt8} {p : Nat} (hl : ¬ 2000 < L.length) (h : lexAt 0 L = .bad p) (hB : Below w.heap.size w w') : LexPost w L (.returned (.tuple #[.slice none 0 0, .int .i64 (p : Int), .int .i64 2])) w' := by
  have e : lexS L = ([], p, 2) := by unfold lexS; rw [if_neg hl, h]
  refine ⟨_, by rw [e]; rfl, ?_, hB⟩
  rw [e]
  exact World.ownsRow_nil _ _ _ _
theorem post_ok {w w' : World} {L : List UInt8} {l : List Tk} {v : Value} (hl : ¬ 2000 < L.length) (h : lexAt 0 L = .ok l) (ho : w'.ownsRow w.heap.size 75 4 v l.length (rowTk l)) (hB : Below w.heap.size w w') : LexPost w L (.returned (.tuple #[v, .int .i64 0, .int .i64 0])) w' := by
  have e : lexS L = (l, 0, 0) := by unfold lexS; rw [if_neg hl, h]
  refine ⟨_, by rw [e]; rfl, ?_, hB⟩
  rw [e]
  exact ho
theorem post_many {w : World} {L : List UInt8} (hl : 2000 < L.length) : LexPost w L (.returned (.tuple #[.slice none 0 0, .int .i64 0, .int .i64 4])) w := by
  have e : lexS L = ([], 0, 4) := by unfold lexS; rw [if_pos hl]
  refine ⟨_, by rw [e]; rfl, ?_, Below.refl _ _⟩
  rw [e]
  exact World.ownsRow_nil _ _ _ _

/-- What Lex leaves, for the laws: the tokens, the place, the error. -/
def LexGot (w : World) (r : List Tk × Nat × Nat) (e : Ending) (w' : World) : Prop :=
  ∃ v, e = .returned (.tuple #[v, .int .i64 (r.2.1 : Int), .int .i64 (r.2.2 : Int)]) ∧ Toks w' v r.1 ∧ Below w.heap.size w w'
theorem LexPost.got {w w' : World} {L : List UInt8} {e : Ending} (h : LexPost w L e w') : LexGot w (lexS L) e w' := by
  obtain ⟨v, h1, h2, h3⟩ := h
  exact ⟨v, h1, Toks.own h2, h3⟩
theorem toks_some {w : World} {v : Value} {t : Tk} {l : List Tk} (h : Toks w v (t :: l)) : ∃ b c, v = .slice (some ⟨b, 0, none⟩) (l.length + 1) c ∧ b < w.heap.size ∧ ∀ (j : Nat) (u : Tk), (t :: l)[j]? = some u →
      w.cell? ⟨b, 4 * j, none⟩ = some (.int .i64 (u.kind : Int)) ∧ w.cell? ⟨b, 4 * j + 1, none⟩ = some (.string (bytes u.text)) ∧ w.cell? ⟨b, 4 * j + 2, none⟩ = some (.int .i64 (u.num : Int)) ∧ w.cell? ⟨b, 4 * j + 3, none⟩ = some (.int .i64 (u.pos : Int)) := by
  obtain ⟨A, c, rfl, h2, h3⟩ := h
  obtain ⟨b, rfl, h4⟩ := h3 (by simp)
  exact ⟨b, c, rfl, h2 _ rfl, h4⟩
theorem toks_nil {w : World} {v : Value} (h : Toks w v []) : ∃ A c, v = .slice A 0 c := by
  obtain ⟨A, c, h1, -, -⟩ := h
  exact ⟨A, c, h1⟩

end Go.Proofs.YthcbgneoonekkaaGreatDoor.Lex

namespace Go.Proofs.YthcbgneoonekkaaGreatDoor.Parse
open Go.RowKit Go.Proofs.YthcbgneoonekkaaGreatDoor.Ints Go.Proofs.YthcbgneoonekkaaGreatDoor.Lex Go.Proofs.YthcbgneoonekkaaGreatDoor.Tree

/-! ### rows of what is open -/
def cellsE (x : Ent) : List Value := [.int .i64 (x.kind : Int), .int .i64 x.lo, .int .i64 x.hi, .int .i64 (x.kids : Int), .int .i64 (x.level : Int), .string (Lex.bytes x.closer), .bool x.reg, .int .i64 (x.depth : Int)]
def rowE (l : List Ent) : List Value := l.flatMap cellsE
theorem rowE_len (l : List Ent) : (rowE l).length = l.length * 8 := by
  induction l with
  | nil => rfl
  | cons t l ih =>
    simp only [rowE, List.flatMap_cons, List.length_append, List.length_cons] at ih ⊢
    rw [ih]
    show 8 + l.length * 8 = (l.length + 1) * 8
    omega
theorem rowE_snoc (l : List Ent) (t : Ent) : rowE (l ++ [t]) = rowE l ++ cellsE t := by simp [rowE]
theorem rowE_at : ∀ (l : List Ent) (j : Nat) (t : Ent), l[j]? = some t → ∀ f, f < 8 → (rowE l)[j * 8 + f]? = (cellsE t)[f]?
  | [], j, t, h, _, _ => by simp at h
  | x :: l, 0, t, h, f, hf => by
    simp only [List.getElem?_cons_zero, Option.some.injEq] at h
    subst h
    show (cellsE x ++ rowE l)[0 * 8 + f]? = _
    rw [Nat.zero_mul, Nat.zero_add, List.getElem?_append_left (by exact hf)]
  | x :: l, j + 1, t, h, f, hf => by
    have ih := rowE_at l j t (by simpa using h) f hf
    show (cellsE x ++ rowE l)[(j + 1) * 8 + f]? = _
    rw [List.getElem?_append_right (by show 8 ≤ _; omega), ← ih]
    congr 1
    show (j + 1) * 8 + f - 8 = _
    omega
theorem cellsE_one (t : Ent) : ∀ u ∈ cellsE t, u.oneCell' = true := by
  intro u hu
  simp only [cellsE, List.mem_cons, List.not_mem_nil, or_false] at hu
  rcases hu with rfl | rfl | rfl | rfl | rfl | rfl | rfl | rfl <;> rfl
/-! ### the reader -/
/-- Blocks that are none of the reader's own, but for kids. -/
def Off3 (g : Nat) (ov rv : Value) : Nat → Prop := fun b => b ≠ g ∧ some b ≠ ov.ownBlock ∧ some b ≠ rv.ownBlock
def noneOr (a b : Option Nat) : Prop := a = none ∨ a ≠ b
theorem noneOr.symm {a b : Option Nat} (h : noneOr a b) : noneOr b a := by
  by_cases hb : b = none
  · exact Or.inl hb
  · refine Or.inr fun e => ?_
    rcases h with h | h
    · exact hb (e.trans h)
    · exact h e.symm
def cellsP (ts : List Tk) (tv ov nv rv : Value) (σ : PS) : List Value := [tv, .int .i64 ((ts.length - σ.rest.length : Nat) : Int), .bool σ.ended, .int .i64 (σ.made : Int), ov, nv, rv]
structure PMem (S : Nat → Prop) (w : World) (base g : Nat) (ts : List Tk) (tv ov nv rv : Value) (SN : List SNd) (σ : PS) : Prop where
  blk : Blk w g (cellsP ts tv ov nv rv σ)
  hg : base ≤ g
  hb : base ≤ w.heap.size
  toks : Toks w tv ts
  tlow : ∀ b, tv.ownBlock = some b → b < base
  suf : σ.rest <:+ ts
  opn : w.ownsRow base 69 8 ov σ.opn.length (rowE σ.opn.reverse)
  nds : OwnNodes (fun b => Off3 g ov rv b ∧ S b) w base nv SN
  ndl : SN.map (·.1) = σ.nodes
  rts : w.ownsRow base 3 1 rv σ.roots.length (σ.roots.reverse.map (Value.int .i64))
  og : ov.ownBlock ≠ some g
  ng : nv.ownBlock ≠ some g
  rg : rv.ownBlock ≠ some g
  on : noneOr ov.ownBlock nv.ownBlock
  or : noneOr ov.ownBlock rv.ownBlock
  nr : noneOr nv.ownBlock rv.ownBlock
  sg : S g
  so : ∀ b, ov.ownBlock = some b → S b
  sn : ∀ b, nv.ownBlock = some b → S b
  sr : ∀ b, rv.ownBlock = some b → S b
/-- What lies later does not matter. -/
theorem PMem.later {S : Nat → Prop} {w w' : World} {base g : Nat} {ts : List Tk} {tv ov nv rv : Value} {SN : List SNd} {σ : PS} (h : PMem S w base g ts tv ov nv rv SN σ) (hb : Below w.heap.size w w') : PMem S w' base g ts tv ov nv rv SN σ :=
  ⟨h.blk.later hb, h.hg, Nat.le_trans h.hb hb.size, h.toks.keep hb, h.tlow, h.suf, below_row h.opn hb, h.nds.below hb, h.ndl, below_row h.rts hb, h.og, h.ng, h.rg, h.on, h.or, h.nr, h.sg, h.so, h.sn, h.sr⟩
theorem ne_own {v : Value} {g b : Nat} (h : v.ownBlock ≠ some g) (hb : v.ownBlock = some b) : b ≠ g := fun e => h (by rw [hb, e])
/-- A store into the reader's own block: what is not a row. -/
theorem PMem.store {S : Nat → Prop} {w : World} {base g : Nat} {ts : List Tk} {tv ov nv rv : Value} {SN : List SNd} {σ σ' : PS} (h : PMem S w base g ts tv ov nv rv SN σ) (k : Nat) (u : Value)
    (hc : cellsP ts tv ov nv rv σ' = (cellsP ts tv ov nv rv σ).set k u) (hk : k < 7) (hs : σ'.rest <:+ ts) (ho : σ'.opn = σ.opn) (hn : σ'.nodes = σ.nodes) (hr : σ'.roots = σ.roots) :
    PMem S (w.setCell ⟨g, k, none⟩ u) base g ts tv ov nv rv SN σ' := by
  have hg : w.grownBy (w.setCell ⟨g, k, none⟩ u) (some g) := ⟨rfl, rfl, rfl, by simp, fun i _ hne => Below.heap_setCell w ⟨g, k, none⟩ u i (fun e => hne (by rw [e]))⟩
  have hbl : Below base w (w.setCell ⟨g, k, none⟩ u) := (Below.refl _ _).setCell (p := ⟨g, k, none⟩) h.hg u
  refine ⟨by rw [hc]; exact h.blk.set k u hk, h.hg, by simpa using h.hb, ?_, h.tlow, hs, by rw [ho]; exact h.opn.kept hg (Or.inr h.og), h.nds.keep hg (Or.inr h.ng) (fun b hb e => hb.1.1 (by injection e)), by rw [hn]; exact h.ndl, by rw [hr]; exact h.rts.kept hg (Or.inr h.rg), h.og, h.ng, h.rg, h.on, h.or, h.nr, h.sg, h.so, h.sn, h.sr⟩
  obtain ⟨A, c, h1, h2, h3⟩ := h.toks
  refine ⟨A, c, h1, fun a ha => by simpa using h2 a ha, fun h0 => ?_⟩
  obtain ⟨b, h4, h5⟩ := h3 h0
  have hlt : b < base := h.tlow b (by rw [h1, h4]; rfl)
  refine ⟨b, h4, fun j t ht => ?_⟩
  obtain ⟨c1, c2, c3, c4⟩ := h5 j t ht
  have key : ∀ (o : Nat) (v : Value), w.cell? ⟨b, o, none⟩ = some v → (w.setCell ⟨g, k, none⟩ u).cell? ⟨b, o, none⟩ = some v := fun o v hv => (hbl.cell (p := ⟨b, o, none⟩) hlt).trans hv
  exact ⟨key _ _ c1, key _ _ c2, key _ _ c3, key _ _ c4⟩
/-- The reader is in memory; and what a call of its methods leaves. -/
def PMemE (S : Nat → Prop) (w : World) (base g : Nat) (ts : List Tk) (σ : PS) : Prop := ∃ tv ov nv rv SN, PMem S w base g ts tv ov nv rv SN σ
theorem PMem.mono {S S' : Nat → Prop} {w : World} {base g : Nat} {ts : List Tk} {tv ov nv rv : Value} {SN : List SNd} {σ : PS} (h : PMem S w base g ts tv ov nv rv SN σ) (hs : ∀ b, b < w.heap.size → S b → S' b) : PMem S' w base g ts tv ov nv rv SN σ :=
  ⟨h.blk, h.hg, h.hb, h.toks, h.tlow, h.suf, h.opn, h.nds.mono fun b hb hp => ⟨hp.1, hs b hb hp.2⟩, h.ndl, h.rts, h.og, h.ng, h.rg, h.on, h.or, h.nr, hs g h.blk.1 h.sg, fun b hb => hs b (h.opn.lt b hb).2 (h.so b hb), fun b hb => hs b (h.nds.1.lt b hb).2 (h.sn b hb), fun b hb => hs b (h.rts.lt b hb).2 (h.sr b hb)⟩
theorem PMemE.mono {S S' : Nat → Prop} {w : World} {base g : Nat} {ts : List Tk} {σ : PS} (h : PMemE S w base g ts σ) (hs : ∀ b, b < w.heap.size → S b → S' b) : PMemE S' w base g ts σ := by
  obtain ⟨tv, ov, nv, rv, SN, h⟩ := h
  exact ⟨tv, ov, nv, rv, SN, h.mono hs⟩
/-- What there is now. -/
theorem PMemE.now {S : Nat → Prop} {w : World} {base g : Nat} {ts : List Tk} {σ : PS} (h : PMemE S w base g ts σ) : PMemE (fun b => b < w.heap.size) w base g ts σ := h.mono fun _ hb _ => hb
/-- A store into a block that is none of the reader's. -/
theorem PMem.far {S : Nat → Prop} {w : World} {base g : Nat} {ts : List Tk} {tv ov nv rv : Value} {SN : List SNd} {σ : PS} (h : PMem S w base g ts tv ov nv rv SN σ) (b k : Nat) (u : Value) (hb : ¬ S b) (hlow : base ≤ b) : PMem S (w.setCell ⟨b, k, none⟩ u) base g ts tv ov nv rv SN σ := by
  have hg : w.grownBy (w.setCell ⟨b, k, none⟩ u) (some b) := ⟨rfl, rfl, rfl, by simp, fun i _ hne => Below.heap_setCell w ⟨b, k, none⟩ u i (fun e => hne (by rw [e]))⟩
  have hbl : Below base w (w.setCell ⟨b, k, none⟩ u) := (Below.refl _ _).setCell (p := ⟨b, k, none⟩) hlow u
  have hne : ∀ {v : Value}, (∀ q, v.ownBlock = some q → S q) → v.ownBlock = none ∨ v.ownBlock ≠ some b := fun {v} hv => Or.inr fun e => hb (hv b e)
  refine ⟨h.blk.other _ _ (fun e => hb (by have e : g = b := e; rw [← e]; exact h.sg)), h.hg, by simpa using h.hb, ?_, h.tlow, h.suf, h.opn.kept hg (hne h.so), h.nds.keep hg (hne h.sn) (fun q hq e => hb (by injection e with e; rw [← e]; exact hq.2)), h.ndl, h.rts.kept hg (hne h.sr), h.og, h.ng, h.rg, h.on, h.or, h.nr, h.sg, h.so, h.sn, h.sr⟩
  obtain ⟨A, c, h1, h2, h3⟩ := h.toks
  refine ⟨A, c, h1, fun a ha => by simpa using h2 a ha, fun h0 => ?_⟩
  obtain ⟨q, h4, h5⟩ := h3 h0
  have hlt : q < base := h.tlow q (by rw [h1, h4]; rfl)
  refine ⟨q, h4, fun j t ht => ?_⟩
  obtain ⟨c1, c2, c3, c4⟩ := h5 j t ht
  have key : ∀ (o : Nat) (v : Value), w.cell? ⟨q, o, none⟩ = some v → (w.setCell ⟨b, k, none⟩ u).cell? ⟨q, o, none⟩ = some v := fun o v hv => (hbl.cell (p := ⟨q, o, none⟩) hlt).trans hv
  exact ⟨key _ _ c1, key _ _ c2, key _ _ c3, key _ _ c4⟩
theorem PMemE.later {S : Nat → Prop} {w w' : World} {base g : Nat} {ts : List Tk} {σ : PS} (h : PMemE S w base g ts σ) (hb : Below w.heap.size w w') : PMemE S w' base g ts σ := by
  obtain ⟨tv, ov, nv, rv, SN, h⟩ := h
  exact ⟨tv, ov, nv, rv, SN, h.later hb⟩
theorem PMemE.base {S : Nat → Prop} {w : World} {base g : Nat} {ts : List Tk} {σ : PS} (h : PMemE S w base g ts σ) : base ≤ w.heap.size := by
  obtain ⟨tv, ov, nv, rv, SN, h⟩ := h
  exact h.hb
/-- The token to be read. -/
theorem PMem.tok {S : Nat → Prop} {w : World} {base g : Nat} {ts : List Tk} {tv ov nv rv : Value} {SN : List SNd} {σ : PS} (h : PMem S w base g ts tv ov nv rv SN σ) {t : Tk} {r : List Tk} (hr : σ.rest = t :: r) :
    ∃ b c j, tv = .slice (some ⟨b, 0, none⟩) ts.length c ∧ ts.length - σ.rest.length = j ∧ j < ts.length ∧ w.cell? ⟨b, 4 * j, none⟩ = some (.int .i64 (t.kind : Int)) ∧ w.cell? ⟨b, 4 * j + 1, none⟩ = some (.string (Lex.bytes t.text)) ∧ w.cell? ⟨b, 4 * j + 2, none⟩ = some (.int .i64 (t.num : Int)) ∧ w.cell? ⟨b, 4 * j + 3, none⟩ = some (.int .i64 (t.pos : Int)) := by
  obtain ⟨pre, hpre⟩ := h.suf
  have hl : ts.length = pre.length + (r.length + 1) := by rw [← hpre, hr, List.length_append, List.length_cons]
  obtain ⟨A, c, h1, h2, h3⟩ := h.toks
  obtain ⟨b, rfl, h5⟩ := h3 (by omega)
  have hj : ts.length - σ.rest.length = pre.length := by rw [hr, List.length_cons]; omega
  have ht : ts[pre.length]? = some t := by
    rw [← hpre, List.getElem?_append_right (Nat.le_refl _), Nat.sub_self, hr]; rfl
  exact ⟨b, c, pre.length, h1, hj, by omega, h5 _ t ht⟩
end Go.Proofs.YthcbgneoonekkaaGreatDoor.Parse
