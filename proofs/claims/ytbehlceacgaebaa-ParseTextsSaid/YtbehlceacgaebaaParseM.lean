/-
  The landed reader of formulas in plain lists: what is open, what was made, token by token. By an AI agent.
-/
import Derived.Test.YtbehlceacgaebaaNodes
import Derived.Test.YtbehlceacgaebaaLexN
namespace Go.Proofs.Ytbehlceacgaebaa.Parse
open Go.Proofs.Ytbehlceacgaebaa.Lex Go.Proofs.Ytbehlceacgaebaa.Tree

/-- What waits for what belongs to it. -/
structure Ent where
  kind : Nat
  lo : Int
  hi : Int
  kids : Nat
  level : Nat
  closer : List UInt8
  reg : Bool
  depth : Nat
/-- The reader: the tokens to come, whether an operand ends here, how many nodes were counted; what is open (the innermost first), the nodes, those that are no kid (the last one first). -/
structure PS where
  rest : List Tk
  ended : Bool
  made : Nat
  opn : List Ent
  nodes : List Nd
  roots : List Int

def posOf : List Tk → Nat
  | [] => 0
  | t :: _ => t.pos
def textOf : List Tk → List UInt8
  | [] => []
  | t :: _ => t.text
def kindOf : List Tk → Nat
  | [] => 0
  | t :: _ => t.kind
def numAt : List Tk → Nat
  | [] => 0
  | t :: _ => t.num
abbrev Fail := Nat × Nat
def ent0 (reg : Bool) : Ent := ⟨0, 0, 0, 0, 0, [], reg, 0⟩
def topE (o : List Ent) : Ent := o.headD (ent0 false)

def aheadK (t : List UInt8) : Nat :=
  if t = [33] then 4 else if t = [112, 114, 101, 118] then 8 else if t = [110, 101, 120, 116] then 9 else if t = [111, 110, 99, 101] then 10
  else if t = [104, 105, 115, 116] then 11 else if t = [115, 111, 109, 101] then 12 else if t = [97, 108, 108] then 13 else 0
/-- The kind of an operator ahead of its operand. -/
def preOf (g : Bool) (t : List UInt8) : Nat := if g = true then (if t = [63] then 19 else 0) else aheadK t
/-- The operand that a token is by itself. -/
def leafOf (g : Bool) (t : List UInt8) : Option Nd :=
  if g = true then (if t = [46] then some ⟨18, ⟨#[]⟩, 0, 0, []⟩ else none)
  else if t = [116, 114, 117, 101] then some ⟨1, ⟨#[]⟩, 0, 0, []⟩
  else if t = [102, 97, 108, 115, 101] then some ⟨2, ⟨#[]⟩, 0, 0, []⟩
  else if nameS t = true then some ⟨3, Lex.bytes t, 0, 0, []⟩ else none
/-- Back and fore. -/
def braceOf (g : Bool) (t : List UInt8) : Nat := if g = true then 0 else if t = [98, 97, 99, 107] then 16 else if t = [102, 111, 114, 101] then 17 else 0
/-- The kind of an operator between operands, and how tightly it holds them. -/
def betwK (g : Bool) (t : List UInt8) : Nat × Nat :=
  if g = true then (if t = [43] then (20, 1) else if t = [59] then (21, 2) else (0, 0))
  else if t = [45, 62] then (7, 1) else if t = [124] then (6, 2) else if t = [38] then (5, 3)
  else if t = [115, 105, 110, 99, 101] then (14, 4) else if t = [117, 110, 116, 105, 108] then (15, 4) else (0, 0)

/-- The interval of a kind, if there is one: its ends, and what comes behind it. -/
def spanM (k : Nat) (r : List Tk) : Except Fail (Int × Int × List Tk) :=
  if k < 8 ∨ 17 < k then .ok (0, 0, r)
  else if textOf r ≠ [91] then .ok (0, -1, r)
  else let r1 := r.tail
    if kindOf r1 ≠ 2 then .error (2, posOf r1)
    else let lo := numAt r1
      let r2 := r1.tail
      if textOf r2 ≠ [44] then .error (2, posOf r2)
      else let r3 := r2.tail
        if textOf r3 = [42] then (let r4 := r3.tail; if textOf r4 ≠ [93] then .error (2, posOf r4) else .ok ((lo : Int), -1, r4.tail))
        else if kindOf r3 ≠ 2 ∨ numAt r3 < lo then .error (2, posOf r3)
        else (let r4 := r3.tail; if textOf r4 ≠ [93] then .error (2, posOf r4) else .ok ((lo : Int), (numAt r3 : Int), r4.tail))

/-- A node over the last k that are no kid. -/
def putM (n : Nd) (k : Nat) (σ : PS) : PS := { σ with nodes := σ.nodes ++ [{ n with kids := (σ.roots.take k).reverse }], roots := (σ.nodes.length : Int) :: σ.roots.drop k }
def entNd (x : Ent) : Nd := ⟨x.kind, ⟨#[]⟩, x.lo, x.hi, []⟩
/-- The innermost, x, is whole. -/
def popX (x : Ent) (K : List Ent) (σ : PS) : PS := if x.kind = 0 then { σ with opn := K } else putM (entNd x) x.kids { σ with opn := K }
def popM (σ : PS) : PS := match σ.opn with
  | [] => σ
  | x :: K => popX x K σ
/-- All that holds as tightly as lev, or more, is whole. -/
def finL (lev : Nat) : List Ent → PS → PS
  | [], σ => σ
  | x :: K, σ => if lev ≤ x.level then finL lev K (popX x K σ) else σ
def finM (lev : Nat) (σ : PS) : PS := finL lev σ.opn σ
def endM (σ : PS) : PS := { finM 5 σ with ended := true }
def makeM (σ : PS) : Except Fail PS := if σ.made = 200 then .error (4, posOf σ.rest) else .ok { σ with made := σ.made + 1 }
def next (σ : PS) : PS := { σ with rest := σ.rest.tail }
def pushM (x : Ent) (σ : PS) : PS := { σ with opn := x :: σ.opn }

def leafM (n : Nd) (σ : PS) : Except Fail PS := match makeM σ with
  | .error e => .error e
  | .ok σ => .ok (endM (putM n 0 (next σ)))
def aheadM (k : Nat) (σ : PS) : Except Fail PS :=
  if k = 0 then .error (2, posOf σ.rest)
  else if (topE σ.opn).depth = 40 then .error (3, posOf σ.rest)
  else match makeM σ with
    | .error e => .error e
    | .ok σ => match spanM k σ.rest.tail with
      | .error e => .error e
      | .ok (lo, hi, r) => .ok (pushM ⟨k, lo, hi, 1, 5, [], false, (topE σ.opn).depth + 1⟩ { σ with rest := r })
def bracketM (x : Ent) (σ : PS) : Except Fail PS :=
  if (topE σ.opn).depth = 40 then .error (3, posOf σ.rest) else .ok (pushM { x with depth := (topE σ.opn).depth + 1 } (next σ))
def bracesM (k : Nat) (σ : PS) : Except Fail PS := match makeM σ with
  | .error e => .error e
  | .ok σ => match spanM k σ.rest.tail with
    | .error e => .error e
    | .ok (lo, hi, r) => if textOf r ≠ [123] then .error (2, posOf r) else bracketM ⟨k, lo, hi, 1, 0, [125], true, 0⟩ { σ with rest := r }
def operatorM (k lev : Nat) (σ : PS) : Except Fail PS := match makeM σ with
  | .error e => .error e
  | .ok σ => match spanM k σ.rest.tail with
    | .error e => .error e
    | .ok (lo, hi, r) => let σ := finM lev { σ with rest := r }
      .ok { pushM ⟨k, lo, hi, 2, lev, [], (topE σ.opn).reg, (topE σ.opn).depth⟩ σ with ended := false }
def starM (σ : PS) : Except Fail PS := match makeM σ with
  | .error e => .error e
  | .ok σ => .ok (putM ⟨22, ⟨#[]⟩, 0, 0, []⟩ 1 (next σ))
def shutM (σ : PS) : Except Fail PS :=
  let σ := finM 1 σ
  if kindOf σ.rest ≠ 3 ∨ textOf σ.rest ≠ (topE σ.opn).closer then .error (2, posOf σ.rest) else .ok (endM (popM (next σ)))
/-- A token with which an operand begins. -/
def beginM (g : Bool) (σ : PS) : Except Fail PS := match leafOf g (textOf σ.rest) with
  | some n => leafM n σ
  | none => if textOf σ.rest = [40] then bracketM ⟨0, 0, 0, 0, 0, [41], g, 0⟩ σ
    else if braceOf g (textOf σ.rest) ≠ 0 then bracesM (braceOf g (textOf σ.rest)) σ
    else aheadM (preOf g (textOf σ.rest)) σ
/-- A token behind an operand. -/
def behindM (σ : PS) : Except Fail PS :=
  let g := (topE σ.opn).reg
  let b := betwK g (textOf σ.rest)
  if b.1 ≠ 0 then operatorM b.1 b.2 σ
  else if g = true ∧ textOf σ.rest = [42] then starM σ
  else shutM σ
def stepM (σ : PS) : Except Fail PS := if σ.ended = true then behindM σ else beginM (topE σ.opn).reg σ

def stops (σ : PS) : Prop := σ.ended = true ∧ kindOf σ.rest = 0
instance (σ : PS) : Decidable (stops σ) := inferInstanceAs (Decidable (_ ∧ _))
def runF : Nat → PS → Except Fail PS
  | 0, σ => if stops σ then .ok σ else .error (2, posOf σ.rest)
  | f + 1, σ => if stops σ then .ok σ else match stepM σ with
    | .error e => .error e
    | .ok σ => runF f σ
/-- The whole text is read. -/
def wholeM (r : Except Fail PS) : Except Fail PS := match r with
  | .error e => .error e
  | .ok σ => let σ := finM 1 σ
    if 1 < σ.opn.length then .error (2, posOf σ.rest) else .ok σ
def start (g : Bool) (ts : List Tk) : PS := ⟨ts, false, 0, [ent0 g], [], []⟩
def allM (g : Bool) (ts : List Tk) : Except Fail PS := wholeM (runF (ts.length + 1) (start g ts))
def outM (r : Except Fail PS) : List Nd × Nat × Nat := match r with
  | .error e => ([], e.2, e.1)
  | .ok σ => (σ.nodes, 0, 0)
/-- What a text is, as a formula (g: as a regular expression): the nodes, the place, the error. -/
def parseS (g : Bool) (bs : List UInt8) : List Nd × Nat × Nat :=
  if (lexS bs).2.2 ≠ 0 then ([], (lexS bs).2.1, (lexS bs).2.2) else outM (allM g (lexS bs).1)

theorem awake1 : (parseS false [111, 110, 99, 101, 91, 50, 44, 53, 93, 32, 112, 32, 38, 32, 113]).2 = (0, 0) ∧ (parseS false [111, 110, 99, 101, 91, 50, 44, 53, 93, 32, 112, 32, 38, 32, 113]).1.map (·.kind) = [3, 10, 3, 5] := by decide +kernel
theorem awake2 : (parseS true [112, 32, 113]).2 = (0, 2) ∧ (parseS true [112, 32, 113]).1.map (·.kind) = [] := by decide +kernel
end Go.Proofs.Ytbehlceacgaebaa.Parse
