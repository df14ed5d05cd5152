/-
  The walk of the reference's word. By an AI agent.
  The landed reader of formulas in plain lists: what is open, what was made, token by token. By an AI agent.
  Tokens: what the walks of package lex and of the reference share. By an AI agent.
-/
import Derived.Test.YtnoghlhggeffnaaDoorGParseMade10
import Derived.Test.YtnoghlhggeffnaaDoorGParseMade5
import Derived.Test.YtnoghlhggeffnaaDoorGParseMade2
import Derived.Test.YtnoghlhggeffnaaDoorGParseMade3
namespace Go.Proofs.YtnoghlhggeffnaaDoor.Show
open Go.RowKit Go.Proofs.YtnoghlhggeffnaaDoor.Tree Go.Proofs.YtnoghlhggeffnaaDoor.Itoa Go.Proofs.YtnoghlhggeffnaaDoor.Ints

theorem bytes_join (a : List UInt8) (s : ByteArray) : Lex.bytes (a ++ s.data.toList) = Lex.bytes a ++ s := by
  apply ByteArray.ext
  apply Array.toList_inj.1
  simp [Lex.bytes]
theorem bytes_self (s : ByteArray) : Lex.bytes s.data.toList = s := by
  apply ByteArray.ext
  apply Array.toList_inj.1
  simp [Lex.bytes]
theorem word_timed {kd : Int} {nm : ByteArray} {lo hi : Int} {ks : List Int} (h : timed kd = true) : word ⟨kd, nm, lo, hi, ks⟩ = words.getD (kd - 8).toNat [] ++ spanT lo hi := if_pos h
theorem box_cell {w w' : World} {cs : Array Value} {T : TypeId} (hb : Below (w.alloc (.cells cs T)).heap.size (w.alloc (.cells cs T)) w') (i : Nat) (v : Value) (hi : cs[i]? = some v) : w'.cell? ⟨w.heap.size, i, none⟩ = some v :=
  below_cell hb (by
    have h : (w.alloc (.cells cs T)).heap[w.heap.size]? = some (.cells cs T (0, 0)) := heap_alloc_new w (.cells cs T)
    unfold World.cell?
    simp only [h]
    exact hi)
set_option maxHeartbeats 8000000 in
set_option maxRecDepth 100000 in
theorem refWord (nd : Nd) (K : Option Addr) (m c : Nat) (w : World) (hT : Tab10 w) (hk : 1 ≤ nd.kind ∧ nd.kind ≤ 22) :
    Calls Tryd.prog 18 #[.agg #[.int .i64 nd.kind, .string nd.name, .int .i64 nd.lo, .int .i64 nd.hi, .slice K m c]] w fun e w' => e = .returned (.string (Lex.bytes (word nd))) ∧ Below w.heap.size w w' := by
  obtain ⟨kd, nm, lo, hi, ks⟩ := nd
  have hk : 1 ≤ kd ∧ kd ≤ 22 := hk
  show Calls Tryd.prog 18 #[.agg #[.int .i64 kd, .string nm, .int .i64 lo, .int .i64 hi, .slice K m c]] w _
  have hw : kd = 1 ∨ kd = 2 ∨ kd = 3 ∨ kd = 4 ∨ kd = 5 ∨ kd = 6 ∨ kd = 7 ∨ kd = 18 ∨ kd = 19 ∨ kd = 20 ∨ kd = 21 ∨ kd = 22 ∨ kd = 8 ∨ kd = 9 ∨ kd = 10 ∨ kd = 11 ∨ kd = 12 ∨ kd = 13 ∨ kd = 14 ∨ kd = 15 ∨ kd = 16 ∨ kd = 17 := by omega
  have HTM := Lib.hid (fun k W => refTimed k W)
  have HB := Lib.hid ((Below.refl w.heap.size w).alloc (Nat.le_refl _) (.cells #[.int .i64 kd, .string nm, .int .i64 lo, .int .i64 hi, .slice K m c] 42))
  have HT := Lib.hid (hT.later HB.out)
  have HX := Lib.hid (fun W => Ival.refText lo hi W)
  clear hk hT
  rcases hw with rfl | rfl | rfl | rfl | rfl | rfl | rfl | rfl | rfl | rfl | rfl | rfl | hw
  iterate 12
    · go_enter Tryd.func18, Tryd.ntmps18
      go_wp2_with (go_at_call 26; refine (HTM.out _ _).mono ?_; rintro e w' ⟨rfl, rfl⟩)
      go_ret
      exact ⟨rfl, HB.out⟩
  have ix0 : ∀ W, (Instr.index 55 (.agg #[.string { data := #[112, 114, 101, 118] }, .string { data := #[110, 101, 120, 116] }, .string { data := #[111, 110, 99, 101] }, .string { data := #[104, 105, 115, 116] }, .string { data := #[115, 111, 109, 101] }, .string { data := #[97, 108, 108] }, .string { data := #[115, 105, 110, 99, 101] }, .string { data := #[117, 110, 116, 105, 108] }, .string { data := #[98, 97, 99, 107] }, .string { data := #[102, 111, 114, 101] }]) (.int .i64 0)).run Tryd.prog W = .ok (.string { data := #[112, 114, 101, 118] }) W := fun W => by kernel_rfl
  have ix1 : ∀ W, (Instr.index 55 (.agg #[.string { data := #[112, 114, 101, 118] }, .string { data := #[110, 101, 120, 116] }, .string { data := #[111, 110, 99, 101] }, .string { data := #[104, 105, 115, 116] }, .string { data := #[115, 111, 109, 101] }, .string { data := #[97, 108, 108] }, .string { data := #[115, 105, 110, 99, 101] }, .string { data := #[117, 110, 116, 105, 108] }, .string { data := #[98, 97, 99, 107] }, .string { data := #[102, 111, 114, 101] }]) (.int .i64 1)).run Tryd.prog W = .ok (.string { data := #[110, 101, 120, 116] }) W := fun W => by kernel_rfl
  have ix2 : ∀ W, (Instr.index 55 (.agg #[.string { data := #[112, 114, 101, 118] }, .string { data := #[110, 101, 120, 116] }, .string { data := #[111, 110, 99, 101] }, .string { data := #[104, 105, 115, 116] }, .string { data := #[115, 111, 109, 101] }, .string { data := #[97, 108, 108] }, .string { data := #[115, 105, 110, 99, 101] }, .string { data := #[117, 110, 116, 105, 108] }, .string { data := #[98, 97, 99, 107] }, .string { data := #[102, 111, 114, 101] }]) (.int .i64 2)).run Tryd.prog W = .ok (.string { data := #[111, 110, 99, 101] }) W := fun W => by kernel_rfl
  have ix3 : ∀ W, (Instr.index 55 (.agg #[.string { data := #[112, 114, 101, 118] }, .string { data := #[110, 101, 120, 116] }, .string { data := #[111, 110, 99, 101] }, .string { data := #[104, 105, 115, 116] }, .string { data := #[115, 111, 109, 101] }, .string { data := #[97, 108, 108] }, .string { data := #[115, 105, 110, 99, 101] }, .string { data := #[117, 110, 116, 105, 108] }, .string { data := #[98, 97, 99, 107] }, .string { data := #[102, 111, 114, 101] }]) (.int .i64 3)).run Tryd.prog W = .ok (.string { data := #[104, 105, 115, 116] }) W := fun W => by kernel_rfl
  have ix4 : ∀ W, (Instr.index 55 (.agg #[.string { data := #[112, 114, 101, 118] }, .string { data := #[110, 101, 120, 116] }, .string { data := #[111, 110, 99, 101] }, .string { data := #[104, 105, 115, 116] }, .string { data := #[115, 111, 109, 101] }, .string { data := #[97, 108, 108] }, .string { data := #[115, 105, 110, 99, 101] }, .string { data := #[117, 110, 116, 105, 108] }, .string { data := #[98, 97, 99, 107] }, .string { data := #[102, 111, 114, 101] }]) (.int .i64 4)).run Tryd.prog W = .ok (.string { data := #[115, 111, 109, 101] }) W := fun W => by kernel_rfl
  have ix5 : ∀ W, (Instr.index 55 (.agg #[.string { data := #[112, 114, 101, 118] }, .string { data := #[110, 101, 120, 116] }, .string { data := #[111, 110, 99, 101] }, .string { data := #[104, 105, 115, 116] }, .string { data := #[115, 111, 109, 101] }, .string { data := #[97, 108, 108] }, .string { data := #[115, 105, 110, 99, 101] }, .string { data := #[117, 110, 116, 105, 108] }, .string { data := #[98, 97, 99, 107] }, .string { data := #[102, 111, 114, 101] }]) (.int .i64 5)).run Tryd.prog W = .ok (.string { data := #[97, 108, 108] }) W := fun W => by kernel_rfl
  have ix6 : ∀ W, (Instr.index 55 (.agg #[.string { data := #[112, 114, 101, 118] }, .string { data := #[110, 101, 120, 116] }, .string { data := #[111, 110, 99, 101] }, .string { data := #[104, 105, 115, 116] }, .string { data := #[115, 111, 109, 101] }, .string { data := #[97, 108, 108] }, .string { data := #[115, 105, 110, 99, 101] }, .string { data := #[117, 110, 116, 105, 108] }, .string { data := #[98, 97, 99, 107] }, .string { data := #[102, 111, 114, 101] }]) (.int .i64 6)).run Tryd.prog W = .ok (.string { data := #[115, 105, 110, 99, 101] }) W := fun W => by kernel_rfl
  have ix7 : ∀ W, (Instr.index 55 (.agg #[.string { data := #[112, 114, 101, 118] }, .string { data := #[110, 101, 120, 116] }, .string { data := #[111, 110, 99, 101] }, .string { data := #[104, 105, 115, 116] }, .string { data := #[115, 111, 109, 101] }, .string { data := #[97, 108, 108] }, .string { data := #[115, 105, 110, 99, 101] }, .string { data := #[117, 110, 116, 105, 108] }, .string { data := #[98, 97, 99, 107] }, .string { data := #[102, 111, 114, 101] }]) (.int .i64 7)).run Tryd.prog W = .ok (.string { data := #[117, 110, 116, 105, 108] }) W := fun W => by kernel_rfl
  have ix8 : ∀ W, (Instr.index 55 (.agg #[.string { data := #[112, 114, 101, 118] }, .string { data := #[110, 101, 120, 116] }, .string { data := #[111, 110, 99, 101] }, .string { data := #[104, 105, 115, 116] }, .string { data := #[115, 111, 109, 101] }, .string { data := #[97, 108, 108] }, .string { data := #[115, 105, 110, 99, 101] }, .string { data := #[117, 110, 116, 105, 108] }, .string { data := #[98, 97, 99, 107] }, .string { data := #[102, 111, 114, 101] }]) (.int .i64 8)).run Tryd.prog W = .ok (.string { data := #[98, 97, 99, 107] }) W := fun W => by kernel_rfl
  have ix9 : ∀ W, (Instr.index 55 (.agg #[.string { data := #[112, 114, 101, 118] }, .string { data := #[110, 101, 120, 116] }, .string { data := #[111, 110, 99, 101] }, .string { data := #[104, 105, 115, 116] }, .string { data := #[115, 111, 109, 101] }, .string { data := #[97, 108, 108] }, .string { data := #[115, 105, 110, 99, 101] }, .string { data := #[117, 110, 116, 105, 108] }, .string { data := #[98, 97, 99, 107] }, .string { data := #[102, 111, 114, 101] }]) (.int .i64 9)).run Tryd.prog W = .ok (.string { data := #[102, 111, 114, 101] }) W := fun W => by kernel_rfl
  by_cases hs : lo = 0 ∧ hi = -1
  · obtain ⟨rfl, rfl⟩ := hs
    have hsq := fun W => span_neq 0 (-1) 0 (-1) W
    rw [decide_eq_true ⟨rfl, rfl⟩] at hsq
    have hgs := guardSpan
    rcases hw with rfl | rfl | rfl | rfl | rfl | rfl | rfl | rfl | rfl | rfl
    all_goals
      go_enter Tryd.func18, Tryd.ntmps18
      go_wp2_with (go_at_call 26; refine (HTM.out _ _).mono ?_; rintro e w' ⟨rfl, rfl⟩)
      go_ret
      exact ⟨rfl, HB.out⟩
  · have hsq := fun W => span_neq lo hi 0 (-1) W
    rw [decide_eq_false hs] at hsq
    have hgs := guardSpan
    have HSP := Lib.hid (show spanT lo hi = (Ival.textS lo hi).data.toList from if_neg hs)
    have hsz := Ival.textS_size lo hi
    rw [show (Ival.textS lo hi).data.toList.length = (Ival.textS lo hi).size from Array.length_toList] at hsz
    obtain ⟨S, hS⟩ : ∃ S, Ival.textS lo hi = S := ⟨_, rfl⟩
    rw [hS] at HX HSP hsz
    have hsz2 : ¬ 9223372036854775807 < 5 + S.size := by omega
    have hsz3 : ¬ 9223372036854775807 < 4 + S.size := by omega
    have hsz4 : ¬ 9223372036854775807 < 3 + S.size := by omega
    clear hs hS
    rcases hw with rfl | rfl | rfl | rfl | rfl | rfl | rfl | rfl | rfl | rfl
    all_goals
      go_enter Tryd.func18, Tryd.ntmps18
      go_wp2_with (first | (go_at_call 26; refine (HTM.out _ _).mono ?_; rintro e w' ⟨rfl, rfl⟩) | (go_at_call 30; refine (HX.out _ HT.out).mono ?_; rintro e w2 ⟨rfl, hb2⟩; have HB2 := Lib.hid (HB.out.trans (hb2.mono HB.out.size)); clear hb2))
      go_ret
      refine ⟨?_, HB2.out⟩
      rw [word_timed rfl, HSP.out, bytes_join]
      rfl
end Go.Proofs.YtnoghlhggeffnaaDoor.Show

namespace Go.Proofs.YtnoghlhggeffnaaDoor.Parse
open Go.Proofs.YtnoghlhggeffnaaDoor.Lex Go.Proofs.YtnoghlhggeffnaaDoor.Tree

/-- What waits for what belongs to it. -/
structure Ent where
  kind : Nat
  lo : Int
  hi : Int
  kids : Nat
  level : Nat
  closer : List UInt8
  reg : Bool
  depth : Nat
/-- The reader: the tokens to come, whether an operand ends here, how many nodes were counted; what is open (the innermost first), the nodes, those that are no kid (the last one first). -/
structure PS where
  rest : List Tk
  ended : Bool
  made : Nat
  opn : List Ent
  nodes : List Nd
  roots : List Int

def posOf : List Tk → Nat
  | [] => 0
  | t :: _ => t.pos
def textOf : List Tk → List UInt8
  | [] => []
  | t :: _ => t.text
def kindOf : List Tk → Nat
  | [] => 0
  | t :: _ => t.kind
def numAt : List Tk → Nat
  | [] => 0
  | t :: _ => t.num
abbrev Fail := Nat × Nat
def ent0 (reg : Bool) : Ent := ⟨0, 0, 0, 0, 0, [], reg, 0⟩
def topE (o : List Ent) : Ent := o.headD (ent0 false)

def aheadK (t : List UInt8) : Nat :=
  if t = [33] then 4 else if t = [112, 114, 101, 118] then 8 else if t = [110, 101, 120, 116] then 9 else if t = [111, 110, 99, 101] then 10
  else if t = [104, 105, 115, 116] then 11 else if t = [115, 111, 109, 101] then 12 else if t = [97, 108, 108] then 13 else 0
/-- The kind of an operator ahead of its operand. -/
def preOf (g : Bool) (t : List UInt8) : Nat := if g = true then (if t = [63] then 19 else 0) else aheadK t
/-- The operand that a token is by itself. -/
def leafOf (g : Bool) (t : List UInt8) : Option Nd :=
  if g = true then (if t = [46] then some ⟨18, ⟨#[]⟩, 0, 0, []⟩ else none)
  else if t = [116, 114, 117, 101] then some ⟨1, ⟨#[]⟩, 0, 0, []⟩
  else if t = [102, 97, 108, 115, 101] then some ⟨2, ⟨#[]⟩, 0, 0, []⟩
  else if nameS t = true then some ⟨3, Lex.bytes t, 0, 0, []⟩ else none
/-- Back and fore. -/
def braceOf (g : Bool) (t : List UInt8) : Nat := if g = true then 0 else if t = [98, 97, 99, 107] then 16 else if t = [102, 111, 114, 101] then 17 else 0
/-- The kind of an operator between operands, and how tightly it holds them. -/
def betwK (g : Bool) (t : List UInt8) : Nat × Nat :=
  if g = true then (if t = [43] then (20, 1) else if t = [59] then (21, 2) else (0, 0))
  else if t = [45, 62] then (7, 1) else if t = [124] then (6, 2) else if t = [38] then (5, 3)
  else if t = [115, 105, 110, 99, 101] then (14, 4) else if t = [117, 110, 116, 105, 108] then (15, 4) else (0, 0)

/-- The interval of a kind, if there is one: its ends, and what comes behind it. -/
def spanM (k : Nat) (r : List Tk) : Except Fail (Int × Int × List Tk) :=
  if k < 8 ∨ 17 < k then .ok (0, 0, r)
  else if textOf r ≠ [91] then .ok (0, -1, r)
  else let r1 := r.tail
    if kindOf r1 ≠ 2 then .error (2, posOf r1)
    else let lo := numAt r1
      let r2 := r1.tail
      if textOf r2 ≠ [44] then .error (2, posOf r2)
      else let r3 := r2.tail
        if textOf r3 = [42] then (let r4 := r3.tail; if textOf r4 ≠ [93] then .error (2, posOf r4) else .ok ((lo : Int), -1, r4.tail))
        else if kindOf r3 ≠ 2 ∨ numAt r3 < lo then .error (2, posOf r3)
        else (let r4 := r3.tail; if textOf r4 ≠ [93] then .error (2, posOf r4) else .ok ((lo : Int), (numAt r3 : Int), r4.tail))

/-- A node over the last k that are no kid. -/
def putM (n : Nd) (k : Nat) (σ : PS) : PS := { σ with nodes := σ.nodes ++ [{ n with kids := (σ.roots.take k).reverse }], roots := (σ.nodes.length : Int) :: σ.roots.drop k }
def entNd (x : Ent) : Nd := ⟨x.kind, ⟨#[]⟩, x.lo, x.hi, []⟩
/-- The innermost, x, is whole. -/
def popX (x : Ent) (K : List Ent) (σ : PS) : PS := if x.kind = 0 then { σ with opn := K } else putM (entNd x) x.kids { σ with opn := K }
def popM (σ : PS) : PS := match σ.opn with
  | [] => σ
  | x :: K => popX x K σ
/-- All that holds as tightly as lev, or more, is whole. -/
def finL (lev : Nat) : List Ent → PS → PS
  | [], σ => σ
  | x :: K, σ => if lev ≤ x.level then finL lev K (popX x K σ) else σ
def finM (lev : Nat) (σ : PS) : PS := finL lev σ.opn σ
def endM (σ : PS) : PS := { finM 5 σ with ended := true }
def makeM (σ : PS) : Except Fail PS := if σ.made = 200 then .error (4, posOf σ.rest) else .ok { σ with made := σ.made + 1 }
def next (σ : PS) : PS := { σ with rest := σ.rest.tail }
def pushM (x : Ent) (σ : PS) : PS := { σ with opn := x :: σ.opn }

def leafM (n : Nd) (σ : PS) : Except Fail PS := match makeM σ with
  | .error e => .error e
  | .ok σ => .ok (endM (putM n 0 (next σ)))
def aheadM (k : Nat) (σ : PS) : Except Fail PS :=
  if k = 0 then .error (2, posOf σ.rest)
  else if (topE σ.opn).depth = 40 then .error (3, posOf σ.rest)
  else match makeM σ with
    | .error e => .error e
    | .ok σ => match spanM k σ.rest.tail with
      | .error e => .error e
      | .ok (lo, hi, r) => .ok (pushM ⟨k, lo, hi, 1, 5, [], false, (topE σ.opn).depth + 1⟩ { σ with rest := r })
def bracketM (x : Ent) (σ : PS) : Except Fail PS :=
  if (topE σ.opn).depth = 40 then .error (3, posOf σ.rest) else .ok (pushM { x with depth := (topE σ.opn).depth + 1 } (next σ))
def bracesM (k : Nat) (σ : PS) : Except Fail PS := match makeM σ with
  | .error e => .error e
  | .ok σ => match spanM k σ.rest.tail with
    | .error e => .error e
    | .ok (lo, hi, r) => if textOf r ≠ [123] then .error (2, posOf r) else bracketM ⟨k, lo, hi, 1, 0, [125], true, 0⟩ { σ with rest := r }
def operatorM (k lev : Nat) (σ : PS) : Except Fail PS := match makeM σ with
  | .error e => .error e
  | .ok σ => match spanM k σ.rest.tail with
    | .error e => .error e
    | .ok (lo, hi, r) => let σ := finM lev { σ with rest := r }
      .ok { pushM ⟨k, lo, hi, 2, lev, [], (topE σ.opn).reg, (topE σ.opn).depth⟩ σ with ended := false }
def starM (σ : PS) : Except Fail PS := match makeM σ with
  | .error e => .error e
  | .ok σ => .ok (putM ⟨22, ⟨#[]⟩, 0, 0, []⟩ 1 (next σ))
def shutM (σ : PS) : Except Fail PS :=
  let σ := finM 1 σ
  if kindOf σ.rest ≠ 3 ∨ textOf σ.rest ≠ (topE σ.opn).closer then .error (2, posOf σ.rest) else .ok (endM (popM (next σ)))
/-- A token with which an operand begins. -/
def beginM (g : Bool) (σ : PS) : Except Fail PS := match leafOf g (textOf σ.rest) with
  | some n => leafM n σ
  | none => if textOf σ.rest = [40] then bracketM ⟨0, 0, 0, 0, 0, [41], g, 0⟩ σ
    else if braceOf g (textOf σ.rest) ≠ 0 then bracesM (braceOf g (textOf σ.rest)) σ
    else aheadM (preOf g (textOf σ.rest)) σ
/-- A token behind an operand. -/
def behindM (σ : PS) : Except Fail PS :=
  let g := (topE σ.opn).reg
  let b := betwK g (textOf σ.rest)
  if b.1 ≠ 0 then operatorM b.1 b.2 σ
  else if g = true ∧ textOf σ.rest = [42] then starM σ
  else shutM σ
def stepM (σ : PS) : Except Fail PS := if σ.ended = true then behindM σ else beginM (topE σ.opn).reg σ

def stops (σ : PS) : Prop := σ.ended = true ∧ kindOf σ.rest = 0
instance (σ : PS) : Decidable (stops σ) := inferInstanceAs (Decidable (_ ∧ _))
def runF : Nat → PS → Except Fail PS
  | 0, σ => if stops σ then .ok σ else .error (2, posOf σ.rest)
  | f + 1, σ => if stops σ then .ok σ else match stepM σ with
    | .error e => .error e
    | .ok σ => runF f σ
/-- The whole text is read. -/
def wholeM (r : Except Fail PS) : Except Fail PS := match r with
  | .error e => .error e
  | .ok σ => let σ := finM 1 σ
    if 1 < σ.opn.length then .error (2, posOf σ.rest) else .ok σ
def start (g : Bool) (ts : List Tk) : PS := ⟨ts, false, 0, [ent0 g], [], []⟩
def allM (g : Bool) (ts : List Tk) : Except Fail PS := wholeM (runF (ts.length + 1) (start g ts))
def outM (r : Except Fail PS) : List Nd × Nat × Nat := match r with
  | .error e => ([], e.2, e.1)
  | .ok σ => (σ.nodes, 0, 0)
/-- What a text is, as a formula (g: as a regular expression): the nodes, the place, the error. -/
def parseS (g : Bool) (bs : List UInt8) : List Nd × Nat × Nat :=
  if (lexS bs).2.2 ≠ 0 then ([], (lexS bs).2.1, (lexS bs).2.2) else outM (allM g (lexS bs).1)

theorem awake1 : (parseS false [111, 110, 99, 101, 91, 50, 44, 53, 93, 32, 112, 32, 38, 32, 113]).2 = (0, 0) ∧ (parseS false [111, 110, 99, 101, 91, 50, 44, 53, 93, 32, 112, 32, 38, 32, 113]).1.map (·.kind) = [3, 10, 3, 5] := by decide +kernel
theorem awake2 : (parseS true [112, 32, 113]).2 = (0, 2) ∧ (parseS true [112, 32, 113]).1.map (·.kind) = [] := by decide +kernel
end Go.Proofs.YtnoghlhggeffnaaDoor.Parse

namespace Go.Proofs.YtnoghlhggeffnaaDoor.Lex
open Go.RowKit

theorem infoTok : (Tryd.prog.info? 68).map (fun i => (i.zero, i.size, i.bytes)) = some (some (.agg #[.int .i64 0, .string { data := #[] }, .int .i64 0, .int .i64 0]), 4, 40) := by kernel_rfl
/-- What a walk of Lex leaves: the tokens, the place, the error. -/
def LexPost (w : World) (L : List UInt8) (e : Ending) (w' : World) : Prop :=
  ∃ v, e = .returned (.tuple #[v, .int .i64 ((lexS L).2.1 : Int), .int .i64 ((lexS L).2.2 : Int)]) ∧ w'.ownsRow w.heap.size 68 4 v (lexS L).1.length (rowTk (lexS L).1) ∧ Below w.heap.size w w'
theorem post_bad {w w' : World} {L : List UInt8} {p : Nat} (hl : ¬ 2000 < L.length) (h : lexAt 0 L = .bad p) (hB : Below w.heap.size w w') : LexPost w L (.returned (.tuple #[.slice none 0 0, .int .i64 (p : Int), .int .i64 2])) w' := by
  have e : lexS L = ([], p, 2) := by unfold lexS; rw [if_neg hl, h]
  refine ⟨_, by rw [e]; rfl, ?_, hB⟩
  rw [e]
  exact World.ownsRow_nil _ _ _ _
theorem post_ok {w w' : World} {L : List UInt8} {l : List Tk} {v : Value} (hl : ¬ 2000 < L.length) (h : lexAt 0 L = .ok l) (ho : w'.ownsRow w.heap.size 68 4 v l.length (rowTk l)) (hB : Below w.heap.size w w') : LexPost w L (.returned (.tuple #[v, .int .i64 0, .int .i64 0])) w' := by
  have e : lexS L = (l, 0, 0) := by unfold lexS; rw [if_neg hl, h]
  refine ⟨_, by rw [e]; rfl, ?_, hB⟩
  rw [e]
  exact ho
theorem post_many {w : World} {L : List UInt8} (hl : 2000 < L.length) : LexPost w L (.returned (.tuple #[.slice none 0 0, .int .i64 0, .int .i64 4])) w := by
  have e : lexS L = ([], 0, 4) := by unfold lexS; rw [if_pos hl]
  refine ⟨_, by rw [e]; rfl, ?_, Below.refl _ _⟩
  rw [e]
  exact World.ownsRow_nil _ _ _ _

/-- What Lex leaves, for the laws: the tokens, the place, the error. -/
def LexGot (w : World) (r : List Tk × Nat × Nat) (e : Ending) (w' : World) : Prop :=
  ∃ v, e = .returned (.tuple #[v, .int .i64 (r.2.1 : Int), .int .i64 (r.2.2 : Int)]) ∧ Toks w' v r.1 ∧ Below w.heap.size w w'
theorem LexPost.got {w w' : World} {L : List UInt8} {e : Ending} (h : LexPost w L e w') : LexGot w (lexS L) e w' := by
  obtain ⟨v, h1, h2, h3⟩ := h
  exact ⟨v, h1, Toks.own h2, h3⟩
theorem toks_some {w : World} {v : Value} {t : Tk} {l : List Tk} (h : Toks w v (t :: l)) : ∃ b c, v = .slice (some ⟨b, 0, none⟩) (l.length + 1) c ∧ b < w.heap.size ∧ ∀ (j : Nat) (u : Tk), (t :: l)[j]? = some u →
      w.cell? ⟨b, 4 * j, none⟩ = some (.int .i64 (u.kind : Int)) ∧ w.cell? ⟨b, 4 * j + 1, none⟩ = some (.string (bytes u.text)) ∧ w.cell? ⟨b, 4 * j + 2, none⟩ = some (.int .i64 (u.num : Int)) ∧ w.cell? ⟨b, 4 * j + 3, none⟩ = some (.int .i64 (u.pos : Int)) := by
  obtain ⟨A, c, rfl, h2, h3⟩ := h
  obtain ⟨b, rfl, h4⟩ := h3 (by simp)
  exact ⟨b, c, rfl, h2 _ rfl, h4⟩
theorem toks_nil {w : World} {v : Value} (h : Toks w v []) : ∃ A c, v = .slice A 0 c := by
  obtain ⟨A, c, h1, -, -⟩ := h
  exact ⟨A, c, h1⟩

end Go.Proofs.YtnoghlhggeffnaaDoor.Lex
