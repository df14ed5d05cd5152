/-
  Kinds of nodes in plain arithmetic, and the reference's small functions on them. Lists of nodes that may be, as a run over the nodes with the open ones. What is told of lists of nodes, as plain functions.
    Made of several texts by wip/tools/mergetpl.py. By an AI agent.
  The walk of the reference's May. By an AI agent.
  What calls leave that hand back nodes; kids moved. By an AI agent.
  The part of TreeBase that speaks of functions which not every seat has. By an AI agent.
  The part of LexN that speaks of functions which not every seat has. By an AI agent.
  The part of IvalMay that speaks of functions which not every seat has. By an AI agent.
  The part of TreeMay that speaks of functions which not every seat has. By an AI agent.
  The walks of the reference's Form, Reg, Plain and SameNodes. By an AI agent.
  The walks of the reference's Start and Part. The walk of the reference's Part.
    Made of several texts by wip/tools/mergetpl.py. By an AI agent.
  The walks of the reference's inside, places, Tests and Steps (stage 14). By an AI agent.
  Sets of numbers as lists of words, in plain arithmetic: which number is in, that a list without noughts at its end is told by what is in it, how many are in it, and which, in order. By an AI agent.
  Slices of words as a walk needs them: a slice that reads as a list of natural numbers below 2^64; the bits of two words. By an AI agent.
  How many bits a word has, as math/bits reckons it: by bits, by pairs, by halves of a byte, by bytes. By an AI agent.
  The walks of package bits and of its reference: what only reads: words, which are used, is a number in, within, the same, how many. By an AI agent.
  The reference's reach, node by node: steps (stage 14). By an AI agent.
  The reference's reach, node by node: tests (stage 14). By an AI agent.
  The reference's reach, node by node: two kids, one after the other (stage 14). By an AI agent.
  The reference's reach, node by node: any number of times (stage 14). By an AI agent.
  The reference's reach, node by node: one of two kids (stage 14). By an AI agent.
  The reference's reach, every node (stage 14). By an AI agent.
  The reference's Reach (stage 14). By an AI agent.
-/
import Derived.Test.YtdbgaccnejffpaaGSatShift4
import Derived.Test.YtdbgaccnejffpaaChecked
import Derived.WalkKit
import Derived.WalkSpells
import Derived.Below
import Derived.Lib.Hide
import Derived.Test.YtdbgaccnejffpaaGSatShift1
import Derived.Deep.Slices
import Derived.Deep.Fields
import Derived.ChangeSame
import Derived.ChangeArms
import Derived.ChangeSlices
import Derived.Laws.StructEq
import Derived.IntWalk
import Derived.Deep.QuietTactic
import Derived.BigQuiet
import Derived.Test.YtdbgaccnejffpaaGSatShift3
import Derived.OwnWalk
import Derived.Deep.RegionHeld
import Derived.Lib.TrailingZeros
import Derived.Laws.Bits64b
import Derived.Laws.BitsLemmas
import Derived.WalkLawsBesides
/- Kinds of nodes in plain arithmetic, and the reference's small functions on them. By an AI agent. -/
namespace Go.Proofs.Ytdbgaccnejffpaa.Tree
open Go.RowKit
def none0 : List Int := [1, 2, 3, 18]
def twos : List Int := [5, 6, 7, 14, 15, 20, 21]
def arity (k : Int) : Int := if k ∈ none0 then 0 else if k ∈ twos then 2 else if k < 1 ∨ 22 < k then -1 else 1
def formKind (k : Int) : Bool := decide (1 ≤ k ∧ k ≤ 17)
def timed (k : Int) : Bool := decide (8 ≤ k ∧ k ≤ 17)
def regs : List Int := [16, 17, 20, 21, 22]
def fits (k c : Int) : Bool := if k ∈ regs then !(formKind c) else formKind c
end Go.Proofs.Ytdbgaccnejffpaa.Tree
/- Lists of nodes that may be, as a run over the nodes with the open ones. By an AI agent. -/
namespace Go.Proofs.Ytdbgaccnejffpaa.Tree
open Go.RowKit
def okShape (n : Nd) (have_ : Nat) : Bool :=
 decide (0 ≤ arity n.kind) && (decide ((n.kids.length : Int) = arity n.kind) && (decide (arity n.kind ≤ have_) && ((decide (n.kind ≠ 3) || Lex.nameS n.name.data.toList) && (decide (n.kind = 3) || decide (n.name.data.toList = [])))))
def okSpan (n : Nd) : Bool := if timed n.kind then Ival.mayS n.lo n.hi else decide (n.lo = 0 ∧ n.hi = 0)
def okKid (l : List Nd) (n : Nd) (k : Int) (t : Nat) : Bool := decide (k = (t : Int)) && fits n.kind ((l[t]?.map (·.kind)).getD 0)
def okKids (l : List Nd) (n : Nd) : List Int → List Nat → Bool
 | k :: ks, t :: ts => okKid l n k t && okKids l n ks ts
 | [], [] => true
 | _, _ => false
def mayStep (l : List Nd) (st : List Nat) (i : Nat) : Option (List Nat) :=
 match l[i]? with
 | none => none
 | some n => if okShape n st.length = true ∧ okSpan n = true ∧ okKids l n n.kids (st.drop (st.length - n.kids.length)) = true then some (st.take (st.length - n.kids.length) ++ [i]) else none
def mayUpTo (l : List Nd) : Nat → Option (List Nat)
 | 0 => some []
 | i + 1 => (mayUpTo l i).bind fun st => mayStep l st i
def mayL (l : List Nd) : Bool :=
 match mayUpTo l l.length with
 | some st => decide (st.length = 1)
 | none => false
theorem upTo_none (l : List Nd) (i : Nat) (h : mayUpTo l i = none) : ∀ j, i ≤ j → mayUpTo l j = none := by
 intro j hj
 induction j with
 | zero =>
  have : i = 0 := by omega
  subst this; exact h
 | succ j ih =>
  by_cases he : i = j + 1
  ·subst he; exact h
  ·rw [mayUpTo, ih (by omega)]
   rfl
theorem may_stop {l : List Nd} {i : Nat} {st : List Nat} (h : mayUpTo l i = some st) (hi : i < l.length) (hs : mayStep l st i = none) : mayL l = false := by
 have h1 : mayUpTo l (i + 1) = none := by rw [mayUpTo, h]; exact hs
 have h2 := upTo_none l (i + 1) h1 l.length (by omega)
 unfold mayL
 rw [h2]
theorem may_end {l : List Nd} {st : List Nat} (h : mayUpTo l l.length = some st) : mayL l = decide (st.length = 1) := by
 unfold mayL
 rw [h]
theorem may_go {l : List Nd} {i : Nat} {st st' : List Nat} (h : mayUpTo l i = some st) (hs : mayStep l st i = some st') : mayUpTo l (i + 1) = some st' := by
 rw [mayUpTo, h]; exact hs
theorem upTo_lt (l : List Nd) : ∀ (i : Nat) (st : List Nat), mayUpTo l i = some st → (∀ x ∈ st, x < i) ∧ st.length ≤ i := by
 intro i
 induction i with
 | zero => intro st h; cases h; simp
 | succ i ih =>
  intro st h
  rw [mayUpTo] at h
  obtain ⟨s0, h1, h2⟩ := Option.bind_eq_some_iff.1 h
  obtain ⟨a, b⟩ := ih s0 h1
  unfold mayStep at h2
  split at h2
  ·cases h2
  ·split at h2
   ·cases h2
    refine ⟨fun x hx => ?_, ?_⟩
    ·rcases List.mem_append.1 hx with hx | hx
     ·have := a x (List.mem_of_mem_take hx); omega
     ·rw [List.mem_singleton.1 hx]; omega
    ·simp only [List.length_append, List.length_take, List.length_singleton]
     omega
   ·cases h2
theorem okKids_at {l : List Nd} {n : Nd} : ∀ (ks : List Int) (ts : List Nat), ks.length = ts.length → (okKids l n ks ts = true ↔ ∀ (j : Nat) (k : Int) (t : Nat), ks[j]? = some k → ts[j]? = some t → okKid l n k t = true)
 | [], [], _ => by simp [okKids]
 | k :: ks, t :: ts, h => by
  have ih := okKids_at (l := l) (n := n) ks ts (by simpa using h)
  simp only [okKids, Bool.and_eq_true, ih]
  constructor
  ·rintro ⟨h1, h2⟩ j x y hx hy
   cases j with
   | zero => simp only [List.getElem?_cons_zero, Option.some.injEq] at hx hy; subst hx; subst hy; exact h1
   | succ j => exact h2 j x y (by simpa using hx) (by simpa using hy)
  ·intro h1
   exact ⟨h1 0 k t rfl rfl, fun j x y hx hy => h1 (j + 1) x y (by simpa using hx) (by simpa using hy)⟩
 | [], _ :: _, h => by simp at h
 | _ :: _, [], h => by simp at h
end Go.Proofs.Ytdbgaccnejffpaa.Tree
/- What is told of lists of nodes, as plain functions. By an AI agent. -/
namespace Go.Proofs.Ytdbgaccnejffpaa.Tree
open Go.RowKit
theorem may_all {l : List Nd} (h : mayL l = true) : ∃ st, mayUpTo l l.length = some st ∧ st.length = 1 := by
 unfold mayL at h
 cases hs : mayUpTo l l.length with
 | none => rw [hs] at h; cases h
 | some st => rw [hs] at h; exact ⟨st, rfl, of_decide_eq_true h⟩
theorem upTo_some {l : List Nd} {i : Nat} (h : (mayUpTo l l.length).isSome = true) (hi : i ≤ l.length) : ∃ st, mayUpTo l i = some st := by
 cases hs : mayUpTo l i with
 | some st => exact ⟨st, rfl⟩
 | none =>
  rw [upTo_none l i hs l.length hi] at h
  cases h
theorem may_ne {l : List Nd} (h : mayL l = true) : 0 < l.length := by
 obtain ⟨st, h1, h2⟩ := may_all h
 have := (upTo_lt l l.length st h1).2
 omega
theorem may_node {l : List Nd} (h : mayL l = true) {i : Nat} {n : Nd} (hi : l[i]? = some n) :
  ∃ st, mayUpTo l i = some st ∧ okShape n st.length = true ∧ okSpan n = true ∧ okKids l n n.kids (st.drop (st.length - n.kids.length)) = true := by
 obtain ⟨s, h1, -⟩ := may_all h
 have hlt : i < l.length := (List.getElem?_eq_some_iff.1 hi).1
 obtain ⟨st, hst⟩ := upTo_some (l := l) (i := i) (by rw [h1]; rfl) (Nat.le_of_lt hlt)
 obtain ⟨st', hst'⟩ := upTo_some (l := l) (i := i + 1) (by rw [h1]; rfl) hlt
 rw [mayUpTo, hst] at hst'
 have hs : mayStep l st i = some st' := hst'
 unfold mayStep at hs
 rw [hi] at hs
 simp only at hs
 split at hs
 ·rename_i hc; exact ⟨st, hst, hc⟩
 ·cases hs
theorem shape_parts {n : Nd} {k : Nat} (h : okShape n k = true) : 0 ≤ arity n.kind ∧ (n.kids.length : Int) = arity n.kind ∧ n.kids.length ≤ k ∧ (n.kind = 3 → Lex.nameS n.name.data.toList = true) ∧ (n.kind ≠ 3 → n.name.data.toList = []) := by
 unfold okShape at h
 simp only [Bool.and_eq_true, Bool.or_eq_true, decide_eq_true_eq] at h
 obtain ⟨h1, h2, h3, h4, h5⟩ := h
 refine ⟨h1, h2, by omega, fun h3 => h4.resolve_left (fun x => x h3), fun h3 => h5.resolve_left h3⟩
theorem may_kids {l : List Nd} (h : mayL l = true) {i : Nat} {n : Nd} (hi : l[i]? = some n) : ∀ k ∈ n.kids, 0 ≤ k ∧ k < (i : Int) := by
 obtain ⟨st, h1, h2, h3, h4⟩ := may_node h hi
 have hlt := (upTo_lt l i st h1).1
 have hk := (shape_parts h2).2.2.1
 intro k hm
 obtain ⟨j, hj, rfl⟩ := List.getElem_of_mem hm
 have hl : n.kids.length = (st.drop (st.length - n.kids.length)).length := by rw [List.length_drop]; omega
 have hj2 : j < (st.drop (st.length - n.kids.length)).length := by omega
 have := (okKids_at _ _ hl).1 h4 j _ _ (List.getElem?_eq_getElem hj) (List.getElem?_eq_getElem hj2)
 unfold okKid at this
 simp only [Bool.and_eq_true, decide_eq_true_eq] at this
 have h5 := hlt _ (List.mem_of_mem_drop (List.getElem_mem hj2))
 rw [this.1]
 omega
theorem may_arity {l : List Nd} (h : mayL l = true) {i : Nat} {n : Nd} (hi : l[i]? = some n) : n.kids.length ≤ 2 := by
 obtain ⟨st, h1, h2, -, -⟩ := may_node h hi
 obtain ⟨-, h3, -⟩ := shape_parts h2
 unfold arity at h3
 split at h3
 ·omega
 ·split at h3
  ·omega
  ·split at h3 <;> omega
theorem kid_nat {l : List Nd} (h : mayL l = true) {i : Nat} {n : Nd} (hi : l[i]? = some n) {j : Nat} (hj : j < n.kids.length) : ∃ t : Nat, n.kids[j]?.getD 0 = (t : Int) ∧ t < i ∧ n.kids.take (j + 1) = n.kids.take j ++ [(t : Int)] := by
 have := may_kids h hi n.kids[j] (List.getElem_mem hj)
 obtain ⟨t, ht⟩ := Int.eq_ofNat_of_zero_le this.1
 refine ⟨t, by rw [List.getElem?_eq_getElem hj]; exact ht, by omega, ?_⟩
 rw [List.take_succ_eq_append_getElem hj, ht]
def lastKind (l : List Nd) : Int := (l.getLast?.map (·.kind)).getD 0
def formL (l : List Nd) : Bool := mayL l && formKind (lastKind l)
def regL (l : List Nd) : Bool := mayL l && !formKind (lastKind l)
def sweet (k : Int) : Bool := decide (k = 7) || decide (8 ≤ k ∧ k ≤ 15)
def startF (l : List Nd) : Nat → Nat → Nat
 | 0, i => i
 | f + 1, i => match l[i]? with
  | none => i
  | some n => match n.kids with
   | [] => i
   | k :: _ => startF l f k.toNat
def startL (l : List Nd) (i : Nat) : Nat := startF l (i + 1) i
def shiftNd (d : Int) (n : Nd) : Nd := { n with kids := n.kids.map (· + d) }
def partL (l : List Nd) (i : Int) : List Nd :=
 if mayL l = true ∧ 0 ≤ i ∧ i < l.length then ((l.take (i.toNat + 1)).drop (startL l i.toNat)).map (shiftNd (-(startL l i.toNat : Int))) else []
def overL (n : Nd) (a b : List Nd) : List Nd :=
 a ++ b.map (shiftNd a.length) ++ [{ n with kids := (if a = [] then [] else [(a.length : Int) - 1]) ++ (if b = [] then [] else [(a.length : Int) + b.length - 1]) }]
end Go.Proofs.Ytdbgaccnejffpaa.Tree

namespace Go.Proofs.Ytdbgaccnejffpaa.Tree
open Go.RowKit Go.Proofs.Ytdbgaccnejffpaa.Ints
def zints (st : List Nat) : List Int := st.map fun x : Nat => (x : Int)
theorem zints_wf (st : List Nat) (n : Nat) (hn : n ≤ 1048576) (h : ∀ x ∈ st, x < n) : ∀ z ∈ zints st, (Lit.int .i64 z).wf = true := by
 intro z hz
 obtain ⟨x, hx, rfl⟩ := List.mem_map.1 hz
 have := h x hx
 exact WalkArith.wf_i64 (by omega)
theorem step_some {l : List Nd} {st : List Nat} {k : Nat} {nd : Nd} (hk : l[k]? = some nd) (h1 : okShape nd st.length = true) (h2 : okSpan nd = true) (h3 : okKids l nd nd.kids (st.drop (st.length - nd.kids.length)) = true) :
  mayStep l st k = some (st.take (st.length - nd.kids.length) ++ [k]) := by
 unfold mayStep
 rw [hk]
 simp only
 rw [if_pos ⟨h1, h2, h3⟩]
theorem shape_ok {n : Nd} {k : Nat} (h1 : 0 ≤ arity n.kind) (h2 : (n.kids.length : Int) = arity n.kind) (h3 : arity n.kind ≤ k) (h4 : (n.kind = 3 ∧ Lex.nameS n.name.data.toList = true) ∨ (n.kind ≠ 3 ∧ n.name.data.toList = [])) : okShape n k = true := by
 unfold okShape
 rw [decide_eq_true h1, decide_eq_true h2, decide_eq_true h3]
 rcases h4 with ⟨h4, h5⟩ | ⟨h4, h5⟩
 ·rw [h5, decide_eq_true h4]; simp
 ·rw [decide_eq_true h4, decide_eq_true h5]; simp
theorem infoInt : (Try.prog.info? 3).map (fun i => (i.zero, i.size, i.bytes)) = some (some (.int .i64 0), 1, 8) := by kernel_rfl
theorem sizeElemInts : (Try.prog.info? (Try.prog.elem 32)).map (·.size) = some 1 := by kernel_rfl
theorem typeInts : Try.prog.underlying 32 = some (.slice (Try.prog.elem 32)) := by kernel_rfl
end Go.Proofs.Ytdbgaccnejffpaa.Tree

namespace Go.Proofs.Ytdbgaccnejffpaa.Tree
open Go.RowKit Go.Proofs.Ytdbgaccnejffpaa.Ints
def GotNodes (S : Nat → Prop) (w : World) (m : List Nd) (e : Ending) (w' : World) : Prop :=
 ∃ A c, e = .returned (.slice A m.length c) ∧ Nodes S w' A m ∧ m.length ≤ c ∧ c ≤ maxLen ∧ Below w.heap.size w w'
theorem GotNodes.own {S : Nat → Prop} {w w' : World} {base : Nat} {v : Value} {σ : List SNd} {m : List Nd} (h : OwnNodes S w' base v σ) (hm : σ.map (·.1) = m) (hS : ∀ b, base ≤ b → b < w'.heap.size → S b) (hb : Below w.heap.size w w') : GotNodes S w m (.returned v) w' := by
 obtain ⟨A, c, rfl, h2, h3, h4⟩ := h.reads hS
 subst hm
 exact ⟨A, c, by rw [List.length_map], h2, by rw [List.length_map]; exact h3, h4, hb⟩
theorem kid_own {S : Nat → Prop} {w : World} {base : Nat} {kv : Value} {ks : List Int} {nd : Nd} (h : w.ownsRow base 3 1 kv ks.length (ks.map (Value.int .i64))) (hz : ∀ z ∈ ks, (Lit.int .i64 z).wf = true)
  (s0 : small64 nd.kind) (s2 : small64 nd.lo) (s3 : small64 nd.hi) (s1 : nd.name.size ≤ maxLen) (hS : ∀ b, base ≤ b → S b) : ∃ K c, kv = .slice K ks.length c ∧ KidOk S w ({ nd with kids := ks }, K, c) := by
 obtain ⟨K, c, rfl, h1, h2, -, h4⟩ := own_slice h
 exact ⟨K, c, rfl, ⟨s0, s2, s3, s1, Rd.own h hz, h1, h2⟩, fun a e _ => hS _ (h4 a e).1⟩
theorem KidOk.setCell {S : Nat → Prop} {w : World} {s : SNd} (h : KidOk S w s) (p : Addr) (u : Value) (hp : ∀ b, S b → p.block ≠ b) : KidOk S (w.setCell p u) s :=
 h.keep fun q _ hq hc => (World.cell?_setCell_far w p q u (hp _ hq)).trans hc
theorem wf_moved {ks : List Int} {d B : Int} (h : ∀ k ∈ ks, 0 ≤ k ∧ k < B) (hd : -B ≤ d ∧ d ≤ B) (hB : B ≤ 1048576) : ∀ z ∈ ks.map (· + d), (Lit.int .i64 z).wf = true := by
 intro z hz
 obtain ⟨k, hk, rfl⟩ := List.mem_map.1 hz
 have := h k hk
 exact WalkArith.wf_i64 (by omega)
theorem kid_cells {nd : Nd} {ks : List Int} {K : Option Addr} {c m : Nat} (h : ks.length = m) : cellsS ({ nd with kids := ks }, K, c) = [.int .i64 nd.kind, .string nd.name, .int .i64 nd.lo, .int .i64 nd.hi, .slice K m c] := by
 subst h; rfl
theorem moved_next (ks : List Int) (j t : Nat) (d : Int) (h : ks.take (j + 1) = ks.take j ++ [(t : Int)]) : ((ks.take j).map (· + d)) ++ [(t : Int) + d] = (ks.take (j + 1)).map (· + d) := by
 rw [h, List.map_append]; rfl
end Go.Proofs.Ytdbgaccnejffpaa.Tree

namespace Go.Proofs.Ytdbgaccnejffpaa.Tree
open Go.RowKit
end Go.Proofs.Ytdbgaccnejffpaa.Tree

namespace Go.Proofs.Ytdbgaccnejffpaa.Lex
open Go.RowKit
section
variable {P : Program} {w : World}
end
end Go.Proofs.Ytdbgaccnejffpaa.Lex

namespace Go.Proofs.Ytdbgaccnejffpaa.Ival
open Go.RowKit
end Go.Proofs.Ytdbgaccnejffpaa.Ival

namespace Go.Proofs.Ytdbgaccnejffpaa.Tree
open Go.RowKit Go.Proofs.Ytdbgaccnejffpaa.Ints
end Go.Proofs.Ytdbgaccnejffpaa.Tree

namespace Go.Proofs.Ytdbgaccnejffpaa.Tree
open Go.RowKit Go.Proofs.Ytdbgaccnejffpaa.Ints
theorem last_at {l : List Nd} {n : Nat} (hl : l.length = n) (h0 : 0 < n) : ∃ x, l[n - 1]? = some x ∧ lastKind l = x.kind := by
 have h1 : n - 1 < l.length := by omega
 refine ⟨l[n - 1], List.getElem?_eq_getElem h1, ?_⟩
 unfold lastKind
 rw [List.getLast?_eq_getElem?, hl, List.getElem?_eq_getElem h1]
 rfl
theorem last_cell {l : List Nd} {n : Nat} {w : World} {A : Option Addr} (hl : l.length = n) (h0 : 0 < n) (h : Nodes Any w A l) : ∃ b off, A = some ⟨b, off, none⟩ ∧ w.cell? ⟨b, off + (n - 1) * 5, none⟩ = some (.int .i64 (lastKind l)) := by
 obtain ⟨b, off, e, hn⟩ := h (by omega)
 obtain ⟨x, hx, hk⟩ := last_at hl h0
 refine ⟨b, off, e, ?_⟩
 have := (hn _ _ hx).1
 rw [Nat.mul_comm] at this
 rw [hk]; exact this
end Go.Proofs.Ytdbgaccnejffpaa.Tree

/- The walks of the reference's Start and Part. By an AI agent. -/
namespace Go.Proofs.Ytdbgaccnejffpaa.Tree
open Go.RowKit Go.Proofs.Ytdbgaccnejffpaa.Ints
end Go.Proofs.Ytdbgaccnejffpaa.Tree
/- The walk of the reference's Part. By an AI agent. -/
namespace Go.Proofs.Ytdbgaccnejffpaa.Tree
open Go.RowKit Go.Proofs.Ytdbgaccnejffpaa.Ints
end Go.Proofs.Ytdbgaccnejffpaa.Tree

namespace Go.Proofs.Ytdbgaccnejffpaa.Paths
open Go.RowKit Go.Proofs.Ytdbgaccnejffpaa.Ints Go.Proofs.Ytdbgaccnejffpaa.Mem Go.Proofs.Ytdbgaccnejffpaa.Src Go.Proofs.Ytdbgaccnejffpaa.Tree
def kindN (l : List Nd) (k : Nat) : Int := (l[k]?.map (·.kind)).getD 0
theorem kind_of {l : List Nd} {k : Nat} {nd : Nd} (h : l[k]? = some nd) : kindN l k = nd.kind := by unfold kindN; rw [h]; rfl
def insideB (l : List Nd) (i : Nat) : Bool := (List.range l.length).any fun k => decide (i < k) && (decide (kindN l k = 19) && decide (startL l k ≤ i))
def placesL (l : List Nd) (kd : Int) : List Nat := (List.range l.length).filter fun i => decide (kindN l i = kd) && !insideB l i
def placesR (l : List Nd) (kd : Int) : List Nat := if regL l = true then placesL l kd else []
end Go.Proofs.Ytdbgaccnejffpaa.Paths

namespace Go.Proofs.Ytdbgaccnejffpaa.Words
def wd (xs : List Nat) (j : Nat) : Nat := xs[j]?.getD 0
def has (xs : List Nat) (k : Nat) : Bool := (xs[k / 64]?.getD 0).testBit (k % 64)
def Ws (xs : List Nat) : Prop := ∀ j : Nat, xs[j]?.getD 0 < 18446744073709551616
theorem out_getD {xs : List Nat} {j : Nat} (h : xs.length ≤ j) : xs[j]?.getD 0 = 0 := by rw [List.getElem?_eq_none h, Option.getD_none]
theorem or_lt {a b : Nat} (ha : a < 18446744073709551616) (hb : b < 18446744073709551616) : a ||| b < 18446744073709551616 := Nat.or_lt_two_pow (n := 64) ha hb
def anot (a b : Nat) : Nat := a ^^^ (a &&& b)
end Go.Proofs.Ytdbgaccnejffpaa.Words

namespace Go.Proofs.Ytdbgaccnejffpaa.RdW
open Go.RowKit Go.Proofs.Ytdbgaccnejffpaa.Ints Go.Proofs.Ytdbgaccnejffpaa.Words
def ints (xs : List Nat) : List Int := xs.map Int.ofNat
theorem ints_at (xs : List Nat) (j : Nat) : (ints xs)[j]?.getD 0 = ((xs[j]?.getD 0 : Nat) : Int) := by
 unfold ints
 rw [List.getElem?_map]
 cases xs[j]? <;> rfl
theorem ints_len (xs : List Nat) : (ints xs).length = xs.length := by simp [ints]
theorem ints_set (xs : List Nat) (j x : Nat) : (ints xs).set j (x : Int) = ints (xs.set j x) := by simp [ints, List.map_set]
theorem word_wf {x : Nat} (h : x < 18446744073709551616) : (Lit.int .u64 (x : Int)).wf = true := by
 simp [Lit.wf, IntKind.min, IntKind.max, IntKind.signed, IntKind.bits]
 omega
theorem ints_wf {xs : List Nat} (h : Ws xs) : ∀ z ∈ ints xs, (Lit.int .u64 z).wf = true := by
 intro z hz
 obtain ⟨x, hx, rfl⟩ := List.mem_map.1 hz
 obtain ⟨j, hj, rfl⟩ := List.getElem_of_mem hx
 have := h j
 rw [List.getElem?_eq_getElem hj] at this
 exact word_wf this
def RdW (w : World) (A : Option Addr) (n : Nat) (xs : List Nat) : Prop := Rd .u64 w A n (ints xs)
section
variable {w w' : World} {A : Option Addr} {n : Nat} {xs : List Nat}
theorem RdW.len (h : RdW w A n xs) : xs.length = n := by rw [← ints_len]; exact Rd.len h
theorem RdW.ws (h : RdW w A n xs) : Ws xs := fun j => by
 by_cases hj : j < n
 ·have := Rd.u64 h j hj
  rw [ints_at] at this
  omega
 ·rw [out_getD (by rw [h.len]; omega)]; omega
theorem RdW.cell (h : RdW w A n xs) : 0 < n → ∃ b off, A = some ⟨b, off, none⟩ ∧ ∀ j, j < n → w.cell? ⟨b, off + j, none⟩ = some (.int .u64 ((wd xs j : Nat) : Int)) := fun h0 => by
 obtain ⟨b, off, e, hc⟩ := Rd.cell h h0
 exact ⟨b, off, e, fun j hj => by rw [hc j hj, ints_at]; rfl⟩
theorem RdW.below (h : RdW w A n xs) (hb : Below w.heap.size w w') : RdW w' A n xs := Rd.below h hb
theorem RdW.own {base c : Nat} {e : TypeId} (h : w.ownsRow base e 1 (.slice A n c) n ((ints xs).map (Value.int .u64))) (hz : Ws xs) : RdW w A n xs := Rd.own h (ints_wf hz)
end
theorem shr_nat (x r : Nat) : (x : Int) / 2 ^ r = ((x / 2 ^ r : Nat) : Int) := by
 rw [Int.natCast_ediv, Int.natCast_pow]; rfl
theorem bit_one (x r : Nat) (hx : x < 18446744073709551616) : (bits .and .u64 ((x : Int) / 2 ^ r) 1 == 1) = x.testBit r := by
 have h := bits_and_u64_nat (x / 2 ^ r) 1 (Nat.lt_of_le_of_lt (Nat.div_le_self _ _) hx) (by omega)
 rw [shr_nat, show (1 : Int) = ((1 : Nat) : Int) from rfl, h, Nat.and_one_is_mod, Nat.testBit_eq_decide_div_mod_eq, Bool.eq_iff_iff, beq_iff_eq, decide_eq_true_iff]
 omega
end Go.Proofs.Ytdbgaccnejffpaa.RdW

namespace Go.Proofs.Ytdbgaccnejffpaa.Words
def val : List Nat → Nat
 | [] => 0
 | b :: r => b + 256 * val r
def bytes : Nat → Nat → List Nat
 | 0, _ => []
 | n + 1, x => x % 256 :: bytes n (x / 256)
def s1 (b : Nat) : Nat := (b / 2 &&& 85) + (b &&& 85)
def s2 (b : Nat) : Nat := (b / 4 &&& 51) + (b &&& 51)
def s3 (b : Nat) : Nat := b / 16 + b % 16
theorem b1 : ∀ b, b < 256 → ∀ r, r < 2 → (b / 2 + 128 * r) &&& 85 = b / 2 &&& 85 := by decide +kernel
theorem b2 : ∀ b, b < 256 → ∀ r, r < 4 → (b / 4 + 64 * r) &&& 51 = b / 4 &&& 51 := by decide +kernel
theorem b3 : ∀ b, b < 256 → s1 b < 256 ∧ s2 (s1 b) < 256 ∧ s2 (s1 b) / 16 ≤ 4 ∧ s2 (s1 b) % 16 ≤ 4 ∧ s3 (s2 (s1 b)) = ((List.range 8).filter b.testBit).length := by decide +kernel
theorem b4 : ∀ d, d < 256 → d &&& 15 = d % 16 := by decide +kernel
end Go.Proofs.Ytdbgaccnejffpaa.Words

namespace Go.Proofs.Ytdbgaccnejffpaa.BitsWalks
open Go.RowKit Go.Proofs.Ytdbgaccnejffpaa.Ints Go.Proofs.Ytdbgaccnejffpaa.Words Go.Proofs.Ytdbgaccnejffpaa.RdW
section
variable (A B : Option Addr) (n c m d : Nat) (xs ys : List Nat) (w : World)
theorem word (i : Nat) (h : RdW w A n xs) :
  Calls Try.prog 103 #[.slice A n c, .int .i64 i] w fun e w' => e = .returned (.int .u64 (wd xs i : Nat)) ∧ w = w' := by
 have hl := h.len
 have hcell := h.cell
 clear h
 by_cases hi : i < n
 ·obtain ⟨b, off, rfl, hc⟩ := hcell (by omega)
  have hc1 := hc i hi
  clear hcell hc
  have hi' : (i : Int) < (n : Int) := by omega
  go_enter Try.func103, Try.ntmps103
  go_wp2
  go_ret
  exact ⟨rfl, rfl⟩
 ·have hi' : ¬ (i : Int) < (n : Int) := by omega
  have ho : wd xs i = 0 := out_getD (by omega)
  go_enter Try.func103, Try.ntmps103
  go_wp2
  go_ret
  exact ⟨rfl, rfl⟩
def hasI (xs : List Nat) (n : Int) : Bool := decide (0 ≤ n) && has xs n.toNat
theorem has_at_ {xs : List Nat} (hw : Ws xs) (m : Nat) : (bits .and .u64 ((wd xs (m / 64) : Nat) / 2 ^ (m % 64) : Int) 1 == 1) = hasI xs m := by
 have h := bit_one (wd xs (m / 64)) (m % 64) (hw (m / 64))
 rw [h]
 simp [hasI, has, wd]
theorem has_ (k : Int) (hk : k ≤ 9223372036854775807) (h : RdW w A n xs) :
  Calls Try.prog 100 #[.slice A n c, .int .i64 k] w fun e w' => e = .returned (.bool (hasI xs k)) ∧ w = w' := by
 by_cases h0 : k < 0
 ·go_enter Try.func100, Try.ntmps100
  go_wp2
  go_ret
  exact ⟨by simp [hasI, show ¬ 0 ≤ k by omega], rfl⟩
 ·obtain ⟨m, rfl⟩ := Int.eq_ofNat_of_zero_le (show 0 ≤ k by omega)
  have hv := has_at_ h.ws m
  generalize hasI xs (m : Int) = r at *
  obtain ⟨q, hq⟩ : ∃ q, m / 64 = q := ⟨_, rfl⟩
  obtain ⟨b, hb⟩ : ∃ b, m % 64 = b := ⟨_, rfl⟩
  rw [hq, hb] at hv
  have e1 : (m : Int) / 64 = (q : Int) := by omega
  have e2 : (m : Int) % 64 = (b : Int) := by omega
  have e3 : (b : Int) ≤ 64 := by omega
  clear hq hb
  go_enter Try.func100, Try.ntmps100
  go_wp2_with (go_at_call 103; refine (word _ _ _ _ _ q h).mono ?_; rintro e w' ⟨rfl, rfl⟩)
  go_ret
  exact ⟨rfl, rfl⟩
end
end Go.Proofs.Ytdbgaccnejffpaa.BitsWalks

namespace Go.Proofs.Ytdbgaccnejffpaa.Paths
open Go.RowKit Go.Proofs.Ytdbgaccnejffpaa.Ints Go.Proofs.Ytdbgaccnejffpaa.Mem Go.Proofs.Ytdbgaccnejffpaa.Src Go.Proofs.Ytdbgaccnejffpaa.Tree Go.Proofs.Ytdbgaccnejffpaa.BitsWalks Go.Proofs.Ytdbgaccnejffpaa.RdW
def kidN (l : List Nd) (x q : Nat) : Nat := (((l[x]?.map (fun y : Nd => y.kids)).getD [])[q]?.getD 0).toNat
def rxOf (l : List Nd) (ts : List Int) (vs : Nat → List Nat) : Rx := ⟨kindN l, fun x => kidN l x 0, fun x => kidN l x 1, fun x i => hasI (vs i) (numT ts (x : Nat))⟩
def RdV (w : World) (V : Option Addr) (n : Nat) (vs : Nat → List Nat) : Prop := 0 < n → ∃ b off, V = some ⟨b, off, none⟩ ∧ ∀ i, i < n → ∃ K q c, w.cell? ⟨b, off + i, none⟩ = some (.slice K q c) ∧ RdW w K q (vs i) ∧ q ≤ c ∧ c ≤ maxLen
structure RIn (w : World) (A : Option Addr) (n : Nat) (l : List Nd) (T : Option Addr) (nt : Nat) (ts : List Int) (V : Option Addr) (nv : Nat) (vs : Nat → List Nat) : Prop where
 nodes : Nodes Tree.Any w A l
 may : mayL l = true
 len : l.length = n
 small : n ≤ 1048576
 tests : Rd .i64 w T nt ts
 nts : nt ≤ 1048576
 vals : RdV w V nv vs
 nvs : nv ≤ 1000000
def GotTab (w : World) (nv : Nat) (m : Tb) (e : Ending) (w' : World) : Prop := ∃ B R, e = .returned (.slice (some ⟨B, 0, none⟩) nv nv) ∧ Tab w' w.heap.size B R nv m ∧ Below w.heap.size w w'
end Go.Proofs.Ytdbgaccnejffpaa.Paths

namespace Go.Proofs.Ytdbgaccnejffpaa.Paths
open Go.RowKit Go.Proofs.Ytdbgaccnejffpaa.Ints Go.Proofs.Ytdbgaccnejffpaa.Mem Go.Proofs.Ytdbgaccnejffpaa.Src Go.Proofs.Ytdbgaccnejffpaa.Tree Go.Proofs.Ytdbgaccnejffpaa.BitsWalks Go.Proofs.Ytdbgaccnejffpaa.RdW
end Go.Proofs.Ytdbgaccnejffpaa.Paths

namespace Go.Proofs.Ytdbgaccnejffpaa.Paths
open Go.RowKit Go.Proofs.Ytdbgaccnejffpaa.Ints Go.Proofs.Ytdbgaccnejffpaa.Mem Go.Proofs.Ytdbgaccnejffpaa.Src Go.Proofs.Ytdbgaccnejffpaa.Tree Go.Proofs.Ytdbgaccnejffpaa.BitsWalks Go.Proofs.Ytdbgaccnejffpaa.RdW
theorem kid_len {l : List Nd} (h : mayL l = true) {i : Nat} {nd : Nd} (hi : l[i]? = some nd) : (nd.kids.length : Int) = arity nd.kind := by
 obtain ⟨st, -, h2, -, -⟩ := may_node h hi
 exact (shape_parts h2).2.1
theorem kidN_at {l : List Nd} {i : Nat} {nd : Nd} (hi : l[i]? = some nd) (j : Nat) : kidN l i j = (nd.kids[j]?.getD 0).toNat := by
 unfold kidN
 rw [hi]
 rfl
theorem node_kids {w : World} {A : Option Addr} {n : Nat} {l : List Nd} {T : Option Addr} {nt : Nat} {ts : List Int} {V : Option Addr} {nv : Nat} {vs : Nat → List Nat} (h : RIn w A n l T nt ts V nv vs) {at_ : Nat} (hat : at_ < n) {m : Nat} (hm : arity (kindN l at_) = (m : Nat)) (h0 : 0 < m) :
  ∃ (b off : Nat) (nd : Nd) (Kb ko cK : Nat), A = some ⟨b, off, none⟩ ∧ nd.kind = kindN l at_ ∧ m ≤ cK ∧ (∀ j, j < m → kidN l at_ j < at_) ∧ ∀ W, Below w.heap.size w W →
   W.cell? ⟨b, off + at_ * 5, none⟩ = some (.int .i64 nd.kind) ∧ W.cell? ⟨b, off + at_ * 5 + 1, none⟩ = some (.string nd.name) ∧ W.cell? ⟨b, off + at_ * 5 + 2, none⟩ = some (.int .i64 nd.lo) ∧ W.cell? ⟨b, off + at_ * 5 + 3, none⟩ = some (.int .i64 nd.hi) ∧
   W.cell? ⟨b, off + at_ * 5 + 4, none⟩ = some (.slice (some ⟨Kb, ko, none⟩) m cK) ∧ ∀ j, j < m → W.cell? ⟨Kb, ko + j, none⟩ = some (.int .i64 ((kidN l at_ j : Nat) : Int)) := by
 have hl := h.len
 obtain ⟨b, off, rfl, hns⟩ := h.nodes (by omega)
 obtain ⟨nd, hnd⟩ : ∃ nd, l[at_]? = some nd := ⟨_, List.getElem?_eq_getElem (by omega)⟩
 have hkl := kid_len h.may hnd
 rw [← kind_of hnd, hm] at hkl
 obtain ⟨x0, x1, x2, x3, s0, s2, s3, s1, K, cK, x4, xr, hc, -⟩ := hns at_ nd hnd
 rw [Nat.mul_comm 5 at_] at x0 x1 x2 x3 x4
 obtain rfl : nd.kids.length = m := by omega
 obtain ⟨Kb, ko, rfl, hcs⟩ := Rd.cell xr h0
 have hkid : ∀ j, j < nd.kids.length → nd.kids[j]?.getD 0 = ((kidN l at_ j : Nat) : Int) ∧ kidN l at_ j < at_ := fun j hj => by
  obtain ⟨t, ht, hlt, -⟩ := kid_nat h.may hnd hj
  rw [kidN_at hnd, ht]
  exact ⟨by simp, by simpa using hlt⟩
 refine ⟨b, off, nd, Kb, ko, cK, rfl, (kind_of hnd).symm, hc, fun j hj => (hkid j hj).2, fun W hb => ⟨Mem.below_cell hb x0, Mem.below_cell hb x1, Mem.below_cell hb x2, Mem.below_cell hb x3, Mem.below_cell hb x4, fun j hj => ?_⟩⟩
 have h2 := hcs j hj
 rw [(hkid j hj).1] at h2
 exact Mem.below_cell hb h2
end Go.Proofs.Ytdbgaccnejffpaa.Paths

namespace Go.Proofs.Ytdbgaccnejffpaa.Paths
open Go.RowKit Go.Proofs.Ytdbgaccnejffpaa.Ints Go.Proofs.Ytdbgaccnejffpaa.Mem Go.Proofs.Ytdbgaccnejffpaa.Src Go.Proofs.Ytdbgaccnejffpaa.Tree Go.Proofs.Ytdbgaccnejffpaa.BitsWalks Go.Proofs.Ytdbgaccnejffpaa.RdW
end Go.Proofs.Ytdbgaccnejffpaa.Paths

namespace Go.Proofs.Ytdbgaccnejffpaa.Paths
open Go.RowKit Go.Proofs.Ytdbgaccnejffpaa.Ints Go.Proofs.Ytdbgaccnejffpaa.Mem Go.Proofs.Ytdbgaccnejffpaa.Src Go.Proofs.Ytdbgaccnejffpaa.Tree Go.Proofs.Ytdbgaccnejffpaa.BitsWalks Go.Proofs.Ytdbgaccnejffpaa.RdW
end Go.Proofs.Ytdbgaccnejffpaa.Paths

namespace Go.Proofs.Ytdbgaccnejffpaa.Paths
open Go.RowKit Go.Proofs.Ytdbgaccnejffpaa.Ints Go.Proofs.Ytdbgaccnejffpaa.Mem Go.Proofs.Ytdbgaccnejffpaa.Src Go.Proofs.Ytdbgaccnejffpaa.Tree Go.Proofs.Ytdbgaccnejffpaa.BitsWalks Go.Proofs.Ytdbgaccnejffpaa.RdW
end Go.Proofs.Ytdbgaccnejffpaa.Paths

namespace Go.Proofs.Ytdbgaccnejffpaa.Paths
open Go.RowKit Go.Proofs.Ytdbgaccnejffpaa.Ints Go.Proofs.Ytdbgaccnejffpaa.Mem Go.Proofs.Ytdbgaccnejffpaa.Src Go.Proofs.Ytdbgaccnejffpaa.Tree Go.Proofs.Ytdbgaccnejffpaa.BitsWalks Go.Proofs.Ytdbgaccnejffpaa.RdW
def idxI (l : List Nat) : List Int := l.map fun i => ((i : Nat) : Int)
def tableR (l : List Nd) (vs : Nat → List Nat) (nv : Nat) : Tb := reachT (rxOf l (idxI (placesR l 19)) vs) nv l.length (l.length - 1)
def GotR (w : World) (reg : Bool) (nv : Nat) (m : Tb) (e : Ending) (w' : World) : Prop := if reg = true then GotTab w nv m e w' else e = .returned (.slice none 0 0) ∧ Below w.heap.size w w'
theorem gotR_yes {reg : Bool} (h : reg = true) (w : World) (nv : Nat) (m : Tb) : GotR w reg nv m = GotTab w nv m := by funext e w'; unfold GotR; rw [if_pos h]
theorem gotR_no {reg : Bool} (h : ¬ reg = true) (w : World) (nv : Nat) (m : Tb) : GotR w reg nv m = fun e w' => e = .returned (.slice none 0 0) ∧ Below w.heap.size w w' := by funext e w'; unfold GotR; rw [if_neg h]
end Go.Proofs.Ytdbgaccnejffpaa.Paths
