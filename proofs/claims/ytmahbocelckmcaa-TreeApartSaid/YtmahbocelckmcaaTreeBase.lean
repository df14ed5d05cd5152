/-
  Kinds of nodes in plain arithmetic, and the reference's small functions on them. Lists of nodes in memory; what a list of nodes that came in reads as. Spans compared by value; a slice from a place on. Lists of nodes that may be, as a run over the nodes with the open ones. What is told of lists of nodes, as plain functions.
  Made of several texts by wip/tools/mergetpl.py. By an AI agent.
-/
import Derived.Test.YtmahbocelckmcaaChecked
import Derived.WalkKit
import Derived.WalkSpells
import Derived.Below
import Derived.Lib.Hide
import Derived.Test.YtmahbocelckmcaaInts
import Derived.Deep.Slices
import Derived.Deep.Fields
import Derived.ChangeSame
import Derived.ChangeArms
import Derived.ChangeSlices
import Derived.Laws.StructEq
import Derived.IntWalk
import Derived.Deep.QuietTactic
import Derived.BigQuiet
import Derived.Test.YtmahbocelckmcaaIvalMay
import Derived.Test.YtmahbocelckmcaaLexN

/- Kinds of nodes in plain arithmetic, and the reference's small functions on them. By an AI agent. -/
namespace Go.Proofs.Ytmahbocelckmcaa.Tree
open Go.RowKit

def none0 : List Int := [1, 2, 3, 18]
def twos : List Int := [5, 6, 7, 14, 15, 20, 21]
/-- How many kids a kind has; -1: it is none. -/
def arity (k : Int) : Int := if k ∈ none0 then 0 else if k ∈ twos then 2 else if k < 1 ∨ 22 < k then -1 else 1
def formKind (k : Int) : Bool := decide (1 ≤ k ∧ k ≤ 17)
def timed (k : Int) : Bool := decide (8 ≤ k ∧ k ≤ 17)
def regs : List Int := [16, 17, 20, 21, 22]
def fits (k c : Int) : Bool := if k ∈ regs then !(formKind c) else formKind c

theorem refFormKind (k : Int) (w : World) :
    Calls Try.prog 56 #[.int .i64 k] w fun e w' => e = .returned (.bool (formKind k)) ∧ w' = w := by
  have h : formKind k = (decide (1 ≤ k) && decide (k ≤ 17)) := Bool.decide_and _ _
  rw [h]
  by_cases h1 : 1 ≤ k
  all_goals
    go_enter Try.func56, Try.ntmps56
    go_wp2
    go_ret
    exact ⟨by first | (simp [h1]; done) | (simp; omega), rfl⟩
theorem refTimed (k : Int) (w : World) :
    Calls Try.prog 51 #[.int .i64 k] w fun e w' => e = .returned (.bool (timed k)) ∧ w' = w := by
  have h : timed k = (decide (8 ≤ k) && decide (k ≤ 17)) := Bool.decide_and _ _
  rw [h]
  by_cases h1 : 8 ≤ k
  all_goals
    go_enter Try.func51, Try.ntmps51
    go_wp2
    go_ret
    exact ⟨by first | (simp [h1]; done) | (simp; omega), rfl⟩

theorem arity_ways (k : Int) : (k = 1 ∨ k = 2 ∨ k = 3 ∨ k = 18) ∨ (k = 5 ∨ k = 6 ∨ k = 7 ∨ k = 14 ∨ k = 15 ∨ k = 20 ∨ k = 21) ∨
    ((k == 1) = false ∧ (k == 2) = false ∧ (k == 3) = false ∧ (k == 18) = false ∧ (k == 5) = false ∧ (k == 6) = false ∧ (k == 7) = false ∧ (k == 14) = false ∧ (k == 15) = false ∧ (k == 20) = false ∧ (k == 21) = false ∧
      arity k = if k < 1 ∨ 22 < k then -1 else 1) := by
  by_cases h1 : k = 1 ∨ k = 2 ∨ k = 3 ∨ k = 18
  · exact Or.inl h1
  · by_cases h2 : k = 5 ∨ k = 6 ∨ k = 7 ∨ k = 14 ∨ k = 15 ∨ k = 20 ∨ k = 21
    · exact Or.inr (Or.inl h2)
    · refine Or.inr (Or.inr ?_)
      simp only [beq_eq_false_iff_ne]
      refine ⟨by omega, by omega, by omega, by omega, by omega, by omega, by omega, by omega, by omega, by omega, by omega, ?_⟩
      unfold arity
      rw [if_neg (by simp only [none0, List.mem_cons, List.not_mem_nil, or_false]; exact h1), if_neg (by simp only [twos, List.mem_cons, List.not_mem_nil, or_false]; exact h2)]

set_option maxHeartbeats 2000000 in
theorem refArity (k : Int) (w : World) :
    Calls Try.prog 43 #[.int .i64 k] w fun e w' => e = .returned (.int .i64 (arity k)) ∧ w' = w := by
  rcases arity_ways k with h | h | ⟨a1, a2, a3, a4, a5, a6, a7, a8, a9, a10, a11, h⟩
  · rcases h with rfl | rfl | rfl | rfl
    all_goals
      go_enter Try.func43, Try.ntmps43
      go_wp2
      go_ret
      exact ⟨rfl, rfl⟩
  · rcases h with rfl | rfl | rfl | rfl | rfl | rfl | rfl
    all_goals
      go_enter Try.func43, Try.ntmps43
      go_wp2
      go_ret
      exact ⟨rfl, rfl⟩
  · by_cases h1 : k < 1
    · rw [h, if_pos (Or.inl h1)]
      clear h
      go_enter Try.func43, Try.ntmps43
      go_wp2
      go_ret
      exact ⟨rfl, rfl⟩
    · by_cases h2 : 22 < k
      · rw [h, if_pos (Or.inr h2)]
        clear h
        go_enter Try.func43, Try.ntmps43
        go_wp2
        go_ret
        exact ⟨rfl, rfl⟩
      · rw [h, if_neg (by omega)]
        have h1' : decide (k < 1) = false := decide_eq_false h1
        have h2' : decide (22 < k) = false := decide_eq_false h2
        clear h
        go_enter Try.func43, Try.ntmps43
        go_wp2
        go_ret
        exact ⟨rfl, rfl⟩

theorem refFits (k c : Int) (w : World) :
    Calls Try.prog 53 #[.int .i64 k, .int .i64 c] w fun e w' => e = .returned (.bool (fits k c)) ∧ w' = w := by
  have hF := fun W => refFormKind c W
  by_cases h : k = 16 ∨ k = 17 ∨ k = 20 ∨ k = 21 ∨ k = 22
  · have e : fits k c = !(formKind c) := by
      unfold fits
      rw [if_pos (by simp only [regs, List.mem_cons, List.not_mem_nil, or_false]; exact h)]
    rw [e]
    obtain ⟨b, hb⟩ : ∃ b, formKind c = b := ⟨_, rfl⟩
    rw [hb] at hF ⊢
    have HF := Lib.hid hF
    clear hF hb e
    rcases h with rfl | rfl | rfl | rfl | rfl
    all_goals
      go_enter Try.func53, Try.ntmps53
      go_wp2_with (go_at_call 56; refine (HF.out _).mono ?_; rintro e w' ⟨rfl, rfl⟩)
      go_ret
      exact ⟨rfl, rfl⟩
  · have e : fits k c = formKind c := by
      unfold fits
      rw [if_neg (by simp only [regs, List.mem_cons, List.not_mem_nil, or_false]; exact h)]
    rw [e]
    have a1 : (k == 16) = false := beq_eq_false_iff_ne.2 (by omega)
    have a2 : (k == 17) = false := beq_eq_false_iff_ne.2 (by omega)
    have a3 : (k == 20) = false := beq_eq_false_iff_ne.2 (by omega)
    have a4 : (k == 21) = false := beq_eq_false_iff_ne.2 (by omega)
    have a5 : (k == 22) = false := beq_eq_false_iff_ne.2 (by omega)
    obtain ⟨b, hb⟩ : ∃ b, formKind c = b := ⟨_, rfl⟩
    rw [hb] at hF ⊢
    have HF := Lib.hid hF
    clear hF hb e h
    go_enter Try.func53, Try.ntmps53
    go_wp2_with (go_at_call 56; refine (HF.out _).mono ?_; rintro e w' ⟨rfl, rfl⟩)
    go_ret
    exact ⟨rfl, rfl⟩
end Go.Proofs.Ytmahbocelckmcaa.Tree

/- Lists of nodes in memory; what a list of nodes that came in reads as. By an AI agent. -/
namespace Go.Proofs.Ytmahbocelckmcaa.Tree
open Go.RowKit Go.ChangeShapes Go.WideShapes Go.Deep Go.Proofs.Ytmahbocelckmcaa.Ints

/-- A node. -/
structure Nd where
  kind : Int
  name : ByteArray
  lo : Int
  hi : Int
  kids : List Int

def small64 (x : Int) : Prop := -9223372036854775808 ≤ x ∧ x ≤ 9223372036854775807
/-- Any block. -/
def Any : Nat → Prop := fun _ => True
/-- The five cells of a node, in blocks of S. -/
def NodeAt (S : Nat → Prop) (w : World) (b o : Nat) (n : Nd) : Prop :=
  w.cell? ⟨b, o, none⟩ = some (.int .i64 n.kind) ∧ w.cell? ⟨b, o + 1, none⟩ = some (.string n.name) ∧ w.cell? ⟨b, o + 2, none⟩ = some (.int .i64 n.lo) ∧ w.cell? ⟨b, o + 3, none⟩ = some (.int .i64 n.hi) ∧
    small64 n.kind ∧ small64 n.lo ∧ small64 n.hi ∧ n.name.size ≤ maxLen ∧
    ∃ (K : Option Addr) (c : Nat), w.cell? ⟨b, o + 4, none⟩ = some (.slice K n.kids.length c) ∧ Rd .i64 w K n.kids.length n.kids ∧ n.kids.length ≤ c ∧ c ≤ maxLen ∧ S b ∧ (∀ a, K = some a → 0 < n.kids.length → S a.block)
theorem NodeAt.keep {S : Nat → Prop} {w w' : World} {b o : Nat} {n : Nd} (h : NodeAt S w b o n) (hk : ∀ p u, S p.block → w.cell? p = some u → w'.cell? p = some u) : NodeAt S w' b o n := by
  obtain ⟨h1, h2, h3, h4, h5, h6, h7, h8, K, c, h9, h10, h11, h12, h13, h14⟩ := h
  refine ⟨hk _ _ h13 h1, hk _ _ h13 h2, hk _ _ h13 h3, hk _ _ h13 h4, h5, h6, h7, h8, K, c, hk _ _ h13 h9, ⟨h10.1, h10.2.1, fun h0 => ?_⟩, h11, h12, h13, h14⟩
  obtain ⟨b', off, e, hc⟩ := h10.2.2 h0
  exact ⟨b', off, e, fun j hj => hk ⟨b', off + j, none⟩ _ (h14 ⟨b', off, none⟩ e h0) (hc j hj)⟩
theorem NodeAt.mono {S S' : Nat → Prop} {w : World} {b o : Nat} {n : Nd} (h : NodeAt S w b o n) (hs : ∀ b, b < w.heap.size → S b → S' b) : NodeAt S' w b o n := by
  obtain ⟨h1, h2, h3, h4, h5, h6, h7, h8, K, c, h9, h10, h11, h12, h13, h14⟩ := h
  refine ⟨h1, h2, h3, h4, h5, h6, h7, h8, K, c, h9, h10, h11, h12, hs _ (World.block_lt_of_cell? w _ h1) h13, fun a e h0 => ?_⟩
  obtain ⟨b', off, e', hc⟩ := h10.2.2 h0
  subst e
  injection e' with e'
  subst e'
  exact hs _ (World.block_lt_of_cell? w _ (hc 0 h0)) (h14 _ rfl h0)
theorem NodeAt.below {S : Nat → Prop} {w w' : World} {b o : Nat} {n : Nd} (h : NodeAt S w b o n) (hb : Below w.heap.size w w') : NodeAt S w' b o n :=
  h.keep fun p _ _ hp => (hb.cell (World.block_lt_of_cell? w p hp)).trans hp
/-- The slice of address A reads as the nodes l, in blocks of S. -/
def Nodes (S : Nat → Prop) (w : World) (A : Option Addr) (l : List Nd) : Prop :=
  0 < l.length → ∃ b off, A = some ⟨b, off, none⟩ ∧ ∀ (j : Nat) (n : Nd), l[j]? = some n → NodeAt S w b (off + 5 * j) n
theorem Nodes.keep {S : Nat → Prop} {w w' : World} {A : Option Addr} {l : List Nd} (h : Nodes S w A l) (hk : ∀ p u, S p.block → w.cell? p = some u → w'.cell? p = some u) : Nodes S w' A l := fun h0 => by
  obtain ⟨b, off, h1, h2⟩ := h h0
  exact ⟨b, off, h1, fun j n hn => (h2 j n hn).keep hk⟩
theorem Nodes.mono {S S' : Nat → Prop} {w : World} {A : Option Addr} {l : List Nd} (h : Nodes S w A l) (hs : ∀ b, b < w.heap.size → S b → S' b) : Nodes S' w A l := fun h0 => by
  obtain ⟨b, off, h1, h2⟩ := h h0
  exact ⟨b, off, h1, fun j n hn => (h2 j n hn).mono hs⟩
theorem Nodes.any {S : Nat → Prop} {w : World} {A : Option Addr} {l : List Nd} (h : Nodes S w A l) : Nodes Any w A l := h.mono fun _ _ _ => trivial
theorem Nodes.below {S : Nat → Prop} {w w' : World} {A : Option Addr} {l : List Nd} (h : Nodes S w A l) (hb : Below w.heap.size w w') : Nodes S w' A l :=
  h.keep fun p _ _ hp => (hb.cell (World.block_lt_of_cell? w p hp)).trans hp
theorem Nodes.nil (S : Nat → Prop) (w : World) (A : Option Addr) : Nodes S w A [] := fun h => by simp at h

theorem structNode : Try.prog.underlying 33 = some (.struct (Try.prog.fieldsOf 33)) := by kernel_rfl
theorem fieldsNode : (Try.prog.fieldsOf 33).toList.map (fun f => (f.type, f.offset)) = [(3, 0), (9, 1), (30, 2), (31, 4)] := by kernel_rfl
theorem structSpan : Try.prog.underlying 30 = some (.struct (Try.prog.fieldsOf 30)) := by kernel_rfl
theorem fieldsSpan : (Try.prog.fieldsOf 30).toList.map (fun f => (f.type, f.offset)) = [(3, 0), (3, 1)] := by kernel_rfl
theorem cellsNode : Try.prog.cellsOf 33 = 5 := by kernel_rfl
theorem cellsSpan : Try.prog.cellsOf 30 = 2 := by kernel_rfl
theorem cellsInt : Try.prog.cellsOf 3 = 1 := by kernel_rfl
theorem cellsStr : Try.prog.cellsOf 9 = 1 := by kernel_rfl
theorem cellsInts : Try.prog.cellsOf 31 = 1 := by kernel_rfl

theorem field_at {fs : Array Field} {l : List (TypeId × Nat)} (h : fs.toList.map (fun f => (f.type, f.offset)) = l) {i : Nat} {t : TypeId} {o : Nat} (hi : l[i]? = some (t, o)) : ∃ f, fs[i]? = some f ∧ f.type = t ∧ f.offset = o := by
  rw [← h, List.getElem?_map] at hi
  obtain ⟨f, hf, he⟩ := Option.map_eq_some_iff.1 hi
  simp only [Prod.mk.injEq] at he
  exact ⟨f, by simpa using hf, he.1, he.2⟩
theorem one_of {cs : List Value} {o : Nat} {v : Value} (h : (cs.drop o).take 1 = [v]) : cs[o]? = some v := by
  have h1 := congrArg (·[0]?) h
  simpa using h1

section
variable {H : Type} {enc : TypeId × Value → H} {w : World}
/-- A node's five values. -/
def NodeVals (w : World) (cs : List Value) (n : Nd) (K : Option Addr) (c : Nat) : Prop :=
  cs[0]? = some (.int .i64 n.kind) ∧ cs[1]? = some (.string n.name) ∧ cs[2]? = some (.int .i64 n.lo) ∧ cs[3]? = some (.int .i64 n.hi) ∧ cs[4]? = some (.slice K n.kids.length c) ∧
    small64 n.kind ∧ small64 n.lo ∧ small64 n.hi ∧ n.name.size ≤ maxLen ∧ Rd .i64 w K n.kids.length n.kids ∧ n.kids.length ≤ c ∧ c ≤ maxLen
/-- One node that is read. -/
theorem node_vals {fuel : Nat} {cs : List Value} {x : DataW H × List MemPlace} (h : DataW.trod enc Try.prog w 0 (fun _ => true) true fuel 33 cs = some x) : ∃ n K c, NodeVals w cs n K c := by
  obtain ⟨ys, m, -, -, -, hlen, hf⟩ := DataW.trod_struct structNode h
  have hget : ∀ i, i < (Try.prog.fieldsOf 33).size → ∃ y, ys[i]? = some y := fun i hi => ⟨_, List.getElem?_eq_getElem (by omega)⟩
  have hsz : (Try.prog.fieldsOf 33).size = 4 := by
    have := congrArg List.length fieldsNode
    simpa using this
  obtain ⟨f0, g0, t0, o0⟩ := field_at fieldsNode (i := 0) rfl
  obtain ⟨f1, g1, t1, o1⟩ := field_at fieldsNode (i := 1) rfl
  obtain ⟨f2, g2, t2, o2⟩ := field_at fieldsNode (i := 2) rfl
  obtain ⟨f3, g3, t3, o3⟩ := field_at fieldsNode (i := 3) rfl
  obtain ⟨y0, e0⟩ := hget 0 (by omega)
  obtain ⟨y1, e1⟩ := hget 1 (by omega)
  obtain ⟨y2, e2⟩ := hget 2 (by omega)
  obtain ⟨y3, e3⟩ := hget 3 (by omega)
  have k0 := hf 0 f0 g0
  have k1 := hf 1 f1 g1
  have k2 := hf 2 f2 g2
  have k3 := hf 3 f3 g3
  rw [t0, o0, e0, cellsInt] at k0
  rw [t1, o1, e1, cellsStr] at k1
  rw [t2, o2, e2, cellsSpan] at k2
  rw [t3, o3, e3, cellsInts] at k3
  obtain ⟨kd, c0, -, w0⟩ := DataW.trod_int Try.underlying3 k0
  obtain ⟨nm, c1, -, w1⟩ := DataW.trod_string Try.underlying9 k1
  obtain ⟨zs, m2, -, -, -, hlen2, hf2⟩ := DataW.trod_struct structSpan k2
  have hsz2 : (Try.prog.fieldsOf 30).size = 2 := by
    have := congrArg List.length fieldsSpan
    simpa using this
  obtain ⟨f4, g4, t4, o4⟩ := field_at fieldsSpan (i := 0) rfl
  obtain ⟨f5, g5, t5, o5⟩ := field_at fieldsSpan (i := 1) rfl
  have e4 : ∃ y, zs[0]? = some y := ⟨_, List.getElem?_eq_getElem (by omega)⟩
  have e5 : ∃ y, zs[1]? = some y := ⟨_, List.getElem?_eq_getElem (by omega)⟩
  obtain ⟨y4, e4⟩ := e4
  obtain ⟨y5, e5⟩ := e5
  have k4 := hf2 0 f4 g4
  have k5 := hf2 1 f5 g5
  rw [t4, o4, e4, cellsInt] at k4
  rw [t5, o5, e5, cellsInt] at k5
  obtain ⟨lo, c4, -, w4⟩ := DataW.trod_int Try.underlying3 k4
  obtain ⟨hi, c5, -, w5⟩ := DataW.trod_int Try.underlying3 k5
  have d0 := one_of c0
  have d1 := one_of c1
  have d4 : cs[2]? = some (.int .i64 lo) := by
    have := one_of c4
    simpa [List.getElem?_take, List.getElem?_drop] using this
  have d5 : cs[3]? = some (.int .i64 hi) := by
    have := one_of c5
    simpa [List.getElem?_take, List.getElem?_drop] using this
  rcases open_ints Try.underlying31 Try.underlying3 cellsInt k3 with ⟨hcs, -⟩ | ⟨a, len, cap, us, hcs, -, hl, hm, hz, -, hcell, hwf⟩
  · have d3 := one_of hcs
    exact ⟨⟨kd, nm, lo, hi, []⟩, none, 0, d0, d1, d4, d5, d3, wf_i64 w0, wf_i64 w4, wf_i64 w5, w1, Rd.nil _ _ _, Nat.le_refl _, by decide⟩
  · have d3 := one_of hcs
    obtain ⟨hr, hl', hm'⟩ := rd_of (k := .i64) (w := w) (A := some a) (zs := us) (len := len) (cap := cap) (Or.inr ⟨a, rfl, hl, hm, by simpa using hz, hcell, hwf⟩)
    have hlen3 : (us.take len).length = len := by rw [List.length_take]; have : us.length = cap := by simpa using hz
                                                  omega
    refine ⟨⟨kd, nm, lo, hi, us.take len⟩, some a, cap, d0, d1, d4, d5, ?_, wf_i64 w0, wf_i64 w4, wf_i64 w5, w1, ?_, ?_, hm⟩
    · simp only [hlen3]; exact d3
    · simp only [hlen3]; exact hr
    · simp only [hlen3]; exact hl

theorem node_of {fuel : Nat} {cs : List Value} {x : DataW H × List MemPlace} {b o : Nat} (h : DataW.trod enc Try.prog w 0 (fun _ => true) true fuel 33 cs = some x)
    (hc : ∀ j, j < 5 → w.cell? ⟨b, o + j, none⟩ = cs[j]?) : ∃ n, NodeAt Any w b o n := by
  obtain ⟨n, K, c, d0, d1, d2, d3, d4, h5, h6, h7, h8, h9, h10, h11⟩ := node_vals h
  exact ⟨n, (hc 0 (by omega)).trans d0, (hc 1 (by omega)).trans d1, (hc 2 (by omega)).trans d2, (hc 3 (by omega)).trans d3, h5, h6, h7, h8, K, c, (hc 4 (by omega)).trans d4, h9, h10, h11, trivial, fun _ _ _ => trivial⟩
/-- What a node's values are good for. -/
def NodeOk (w : World) (n : Nd) (K : Option Addr) (c : Nat) : Prop :=
  small64 n.kind ∧ small64 n.lo ∧ small64 n.hi ∧ n.name.size ≤ maxLen ∧ Rd .i64 w K n.kids.length n.kids ∧ n.kids.length ≤ c ∧ c ≤ maxLen
set_option maxRecDepth 100000 in
/-- A node that came in by value. -/
theorem node_value {r : Reach} {b0 : Nat} {v : Value} {d : DataW H} {p : List MemPlace} (hv : Value.okWide Try.prog w r b0 33 v) (h : DataW.Trod enc Try.prog w 0 (fun _ => true) true 33 v d p) :
    ∃ (n : Nd) (K : Option Addr) (c : Nat), v = .agg #[.int .i64 n.kind, .string n.name, .int .i64 n.lo, .int .i64 n.hi, .slice K n.kids.length c] ∧
      NodeOk w n K c := by
  obtain ⟨cs, rfl, hsz⟩ := okWide_struct structNode hv
  obtain ⟨fuel, hf⟩ := h
  obtain ⟨n, K, c, d0, d1, d2, d3, d4, h5⟩ := node_vals hf
  refine ⟨n, K, c, ?_, h5⟩
  congr 1
  have hsz5 : cs.size = 5 := hsz.trans cellsNode
  simp only [Value.cells] at d0 d1 d2 d3 d4
  apply Array.ext
  · simpa using hsz5
  · intro i h1 h2
    have hi : i < 5 := by omega
    have key : ∀ (j : Nat) (u : Value), cs.toList[j]? = some u → ∀ hj : j < cs.size, cs[j] = u := fun j u hu hj => by
      rw [Array.getElem?_toList, Array.getElem?_eq_getElem hj] at hu
      exact Option.some.inj hu
    match i, hi with
    | 0, _ => exact key 0 _ d0 h1
    | 1, _ => exact key 1 _ d1 h1
    | 2, _ => exact key 2 _ d2 h1
    | 3, _ => exact key 3 _ d3 h1
    | 4, _ => exact key 4 _ d4 h1

set_option maxRecDepth 100000 in
/-- A list of nodes that came in. -/
theorem nodes_of {len cap : Nat} {A : Option Addr} {d : DataW H} {p : List MemPlace} (h : DataW.Trod enc Try.prog w 0 (fun _ => true) true 22 (.slice A len cap) d p) :
    ∃ l : List Nd, l.length = len ∧ Nodes Any w A l ∧ len ≤ cap ∧ cap ≤ maxLen := by
  obtain ⟨fuel, hf⟩ := h
  rcases open_slice Try.underlying22 hf with ⟨hcs, -⟩ | ⟨a, l', c', m, n, D, Pl, hcs, -, hl, hm, hmm, -, hi⟩
  · simp [Value.cells] at hcs
    obtain ⟨rfl, rfl, rfl⟩ := hcs
    exact ⟨[], rfl, fun h0 => by simp at h0, Nat.le_refl _, by decide⟩
  · simp [Value.cells] at hcs
    obtain ⟨rfl, rfl, rfl⟩ := hcs
    have hm' : m = cap := by simpa using hmm
    have hone : ∀ i, i < len → ∃ nd, ∃ b off, a = ⟨b, off, none⟩ ∧ NodeAt Any w b (off + 5 * i) nd := fun i hi' => by
      obtain ⟨cs', hc, ht⟩ := hi i (by omega)
      rw [cellsNode] at hc
      obtain ⟨-, hcl, hat⟩ := World.cells?_some hc
      obtain ⟨b, off, spot⟩ := a
      obtain ⟨cs0, hc0, -⟩ := hi 0 (by omega)
      rw [cellsNode] at hc0
      obtain ⟨-, hcl0, hat0⟩ := World.cells?_some hc0
      have h0 := hat0 0 (by omega)
      have hv : cs0[0]? = some (cs0[0]'(by omega)) := List.getElem?_eq_getElem (by omega)
      rw [hv, add_add] at h0
      have hspot : spot = none := by simpa [Addr.add] using World.cell?_spot h0
      subst hspot
      obtain ⟨nd, hn⟩ := node_of (b := b) (o := off + 5 * i) ht (fun j hj => by
        rw [← hat j (by omega), add_add]
        congr 1
        unfold Addr.add
        split <;> simp_all <;> omega)
      exact ⟨nd, b, off, rfl, hn⟩
    refine ⟨(List.range len).map fun i => if h : i < len then Classical.choose (hone i h) else ⟨0, ⟨#[]⟩, 0, 0, []⟩, by simp, fun h0 => ?_, hl, hm⟩
    simp only [List.length_map, List.length_range] at h0
    obtain ⟨-, b, off, rfl, -⟩ := hone 0 h0
    refine ⟨b, off, rfl, fun j n hn => ?_⟩
    have hj : j < len := by
      have := (List.getElem?_eq_some_iff.1 hn).1
      simpa using this
    simp only [List.getElem?_map, List.getElem?_range hj, Option.map_some, Option.some.injEq, dif_pos hj] at hn
    subst hn
    obtain ⟨b', off', e, hn⟩ := Classical.choose_spec (hone j hj)
    injection e with e1 e2
    subst e1; subst e2
    exact hn
end
end Go.Proofs.Ytmahbocelckmcaa.Tree

/- Spans compared by value; a slice from a place on. By an AI agent. -/
namespace Go.Proofs.Ytmahbocelckmcaa.Tree
open Go.RowKit Go.Proofs.Ytmahbocelckmcaa.Ints

theorem fieldsSpan3 : (Try.prog.fieldsOf 30).toList.map (fun f => (f.name, f.type, f.offset)) = [("Lo", 3, 0), ("Hi", 3, 1)] := by kernel_rfl
theorem stoodSpan : Try.prog.stoodInHeld 30 = false := by kernel_rfl
theorem guardSpan : Try.prog.eqGuardType Try.prog.depth 30 = false := by kernel_rfl
theorem part_int {P : Program} (w : World) (t : TypeId) (cs : Array Value) (o : Nat) (v : Value) {k : IntKind} (ht : P.underlying t = some (.int k)) (hv : cs[o]? = some v) : (part t cs o).run P w = .ok v w := by
  simp [part, isAgg, run_underlying ht, hv]
set_option maxRecDepth 100000 in
theorem span_equal (a b c d : Int) (w : World) : (Op.equalIn 10000 30 (.agg #[.int .i64 a, .int .i64 b]) (.agg #[.int .i64 c, .int .i64 d])).run Try.prog w = .ok (decide (a = c ∧ b = d)) w := by
  rw [run_equalIn_struct w _ _ _ _ structSpan stoodSpan]
  generalize hfs : (Try.prog.fieldsOf 30).toList = fs
  have h := fieldsSpan3
  rw [hfs] at h
  match fs, h with
  | [f0, f1], h =>
    simp only [List.map_cons, List.map_nil, List.cons.injEq, Prod.mk.injEq, and_true] at h
    obtain ⟨⟨n0, t0, o0⟩, n1, t1, o1⟩ := h
    have q0 : ∀ (W : World) (x y : Value), (part 3 #[x, y] 0).run Try.prog W = .ok x W := fun W x y => part_int W _ _ 0 x Try.underlying3 rfl
    have q1 : ∀ (W : World) (x y : Value), (part 3 #[x, y] 1).run Try.prog W = .ok y W := fun W x y => part_int W _ _ 1 y Try.underlying3 rfl
    have e0 : ∀ (W : World) (x y : Int), (Op.equalIn 9999 3 (.int .i64 x) (.int .i64 y)).run Try.prog W = .ok (x == y) W := fun W x y => run_equalIn_int W 9998 _ .i64 .i64 x y Try.underlying3
    have hk : ∀ x y : Int, (x == y) = decide (x = y) := fun x y => by
      rw [Bool.eq_iff_iff, beq_iff_eq, decide_eq_true_iff]
    have hfin : decide (a = c ∧ b = d) = (decide (a = c) && decide (b = d)) := Bool.decide_and _ _
    rw [hfin]
    simp only [Op.eqFields, n0, t0, o0, n1, t1, o1, q0, q1, e0, hk, Sem.run_bind, Result.andThen_ok, ne_eq, String.reduceEq, not_false_eq_true, if_true, Sem.run_ite, Sem.run_pure]
    generalize decide (a = c) = b0
    generalize decide (b = d) = b1
    cases b0 <;> cases b1 <;> rfl
set_option maxRecDepth 100000 in
theorem span_neq (a b c d : Int) (w : World) : (binOp .neq 30 (.agg #[.int .i64 a, .int .i64 b]) (.agg #[.int .i64 c, .int .i64 d])).run Try.prog w = .ok (.bool (!(decide (a = c ∧ b = d)))) w := by
  rw [run_neq_struct, span_equal]
  rfl
set_option maxRecDepth 100000 in
theorem span_eql (a b c d : Int) (w : World) : (binOp .eql 30 (.agg #[.int .i64 a, .int .i64 b]) (.agg #[.int .i64 c, .int .i64 d])).run Try.prog w = .ok (.bool (decide (a = c ∧ b = d))) w := by
  rw [run_eql_struct, span_equal]
  rfl

/-- Where a part of a slice begins. -/
def fromAddr (A : Option Addr) (cap k size : Nat) : Option Addr := if cap = k then A else A.map (·.add (k * size))
set_option maxRecDepth 100000 in
theorem slice_from {P : Program} (t : TypeId) (ht : P.underlying t = some (.slice (P.elem t))) (size : Nat) (hs : (P.info? (P.elem t)).map (·.size) = some size) (A : Option Addr) (n cap k : Nat) (hk : k ≤ n) (W : World) :
    (Instr.slice t (.slice A n cap) (some (.int .i64 (k : Int))) none none).run P W = .ok (.slice (fromAddr A cap k size) (n - k) (cap - k)) W := by
  rw [run_slice_l W t A n cap ht .i64 (k : Int) (by omega) (by omega)]
  obtain ⟨i, hi, hz⟩ := Option.map_eq_some_iff.1 hs
  simp [sizeOf, typeInfo, hi, hz, Result.andThen, sliced, fromAddr]
theorem Rd.from {k : IntKind} {w : World} {A : Option Addr} {n cap j : Nat} {zs : List Int} (h : Rd k w A n zs) (hn : n ≤ cap) (hj : j ≤ n) : Rd k w (fromAddr A cap j 1) (n - j) (zs.drop j) := by
  unfold fromAddr
  by_cases hc : cap = j
  · rw [if_pos hc]
    have e : n - j = 0 := by omega
    have e2 : zs.drop j = [] := List.drop_eq_nil_of_le (by rw [h.len]; omega)
    rw [e, e2]
    exact Rd.nil _ _ _
  · rw [if_neg hc, Nat.mul_one]
    by_cases h0 : n = 0
    · have e : n - j = 0 := by omega
      have e2 : zs.drop j = [] := List.drop_eq_nil_of_le (by rw [h.len]; omega)
      rw [e, e2]
      exact Rd.nil _ _ _
    · obtain ⟨b, off, rfl, -⟩ := h.cell (by omega)
      have := h.drop hj
      have e : (⟨b, off, none⟩ : Addr).add j = ⟨b, off + j, none⟩ := by unfold Addr.add; split <;> simp_all
      rw [Option.map_some, e]
      exact this
theorem Rd.upto {k : IntKind} {w : World} {A : Option Addr} {n j : Nat} {zs : List Int} (h : Rd k w A n zs) (hj : j ≤ n) : Rd k w A j (zs.take j) := h.take hj
end Go.Proofs.Ytmahbocelckmcaa.Tree

/- Lists of nodes that may be, as a run over the nodes with the open ones. By an AI agent. -/
namespace Go.Proofs.Ytmahbocelckmcaa.Tree
open Go.RowKit

def okShape (n : Nd) (have_ : Nat) : Bool :=
  decide (0 ≤ arity n.kind) && (decide ((n.kids.length : Int) = arity n.kind) && (decide (arity n.kind ≤ have_) && ((decide (n.kind ≠ 3) || Lex.nameS n.name.data.toList) && (decide (n.kind = 3) || decide (n.name.data.toList = [])))))
def okSpan (n : Nd) : Bool := if timed n.kind then Ival.mayS n.lo n.hi else decide (n.lo = 0 ∧ n.hi = 0)
def okKid (l : List Nd) (n : Nd) (k : Int) (t : Nat) : Bool := decide (k = (t : Int)) && fits n.kind ((l[t]?.map (·.kind)).getD 0)
def okKids (l : List Nd) (n : Nd) : List Int → List Nat → Bool
  | k :: ks, t :: ts => okKid l n k t && okKids l n ks ts
  | [], [] => true
  | _, _ => false
def mayStep (l : List Nd) (st : List Nat) (i : Nat) : Option (List Nat) :=
  match l[i]? with
  | none => none
  | some n => if okShape n st.length = true ∧ okSpan n = true ∧ okKids l n n.kids (st.drop (st.length - n.kids.length)) = true then some (st.take (st.length - n.kids.length) ++ [i]) else none
def mayUpTo (l : List Nd) : Nat → Option (List Nat)
  | 0 => some []
  | i + 1 => (mayUpTo l i).bind fun st => mayStep l st i
def mayL (l : List Nd) : Bool :=
  match mayUpTo l l.length with
  | some st => decide (st.length = 1)
  | none => false

theorem upTo_none (l : List Nd) (i : Nat) (h : mayUpTo l i = none) : ∀ j, i ≤ j → mayUpTo l j = none := by
  intro j hj
  induction j with
  | zero =>
    have : i = 0 := by omega
    subst this; exact h
  | succ j ih =>
    by_cases he : i = j + 1
    · subst he; exact h
    · rw [mayUpTo, ih (by omega)]
      rfl
theorem may_stop {l : List Nd} {i : Nat} {st : List Nat} (h : mayUpTo l i = some st) (hi : i < l.length) (hs : mayStep l st i = none) : mayL l = false := by
  have h1 : mayUpTo l (i + 1) = none := by rw [mayUpTo, h]; exact hs
  have h2 := upTo_none l (i + 1) h1 l.length (by omega)
  unfold mayL
  rw [h2]
theorem may_end {l : List Nd} {st : List Nat} (h : mayUpTo l l.length = some st) : mayL l = decide (st.length = 1) := by
  unfold mayL
  rw [h]
theorem may_go {l : List Nd} {i : Nat} {st st' : List Nat} (h : mayUpTo l i = some st) (hs : mayStep l st i = some st') : mayUpTo l (i + 1) = some st' := by
  rw [mayUpTo, h]; exact hs
theorem upTo_lt (l : List Nd) : ∀ (i : Nat) (st : List Nat), mayUpTo l i = some st → (∀ x ∈ st, x < i) ∧ st.length ≤ i := by
  intro i
  induction i with
  | zero => intro st h; cases h; simp
  | succ i ih =>
    intro st h
    rw [mayUpTo] at h
    obtain ⟨s0, h1, h2⟩ := Option.bind_eq_some_iff.1 h
    obtain ⟨a, b⟩ := ih s0 h1
    unfold mayStep at h2
    split at h2
    · cases h2
    · split at h2
      · cases h2
        refine ⟨fun x hx => ?_, ?_⟩
        · rcases List.mem_append.1 hx with hx | hx
          · have := a x (List.mem_of_mem_take hx); omega
          · rw [List.mem_singleton.1 hx]; omega
        · simp only [List.length_append, List.length_take, List.length_singleton]
          omega
      · cases h2
theorem okKids_at {l : List Nd} {n : Nd} : ∀ (ks : List Int) (ts : List Nat), ks.length = ts.length → (okKids l n ks ts = true ↔ ∀ (j : Nat) (k : Int) (t : Nat), ks[j]? = some k → ts[j]? = some t → okKid l n k t = true)
  | [], [], _ => by simp [okKids]
  | k :: ks, t :: ts, h => by
    have ih := okKids_at (l := l) (n := n) ks ts (by simpa using h)
    simp only [okKids, Bool.and_eq_true, ih]
    constructor
    · rintro ⟨h1, h2⟩ j x y hx hy
      cases j with
      | zero => simp only [List.getElem?_cons_zero, Option.some.injEq] at hx hy; subst hx; subst hy; exact h1
      | succ j => exact h2 j x y (by simpa using hx) (by simpa using hy)
    · intro h1
      exact ⟨h1 0 k t rfl rfl, fun j x y hx hy => h1 (j + 1) x y (by simpa using hx) (by simpa using hy)⟩
  | [], _ :: _, h => by simp at h
  | _ :: _, [], h => by simp at h
theorem okKids_bad {l : List Nd} {n : Nd} {ks : List Int} {ts : List Nat} (j : Nat) {k : Int} {t : Nat} (h1 : ks[j]? = some k) (h2 : ts[j]? = some t) (h : okKid l n k t = false) : okKids l n ks ts = false := by
  rcases hb : okKids l n ks ts
  · rfl
  · by_cases hl : ks.length = ts.length
    · have := (okKids_at ks ts hl).1 hb j k t h1 h2
      rw [h] at this
      cases this
    · exfalso
      clear h1 h2 h
      revert hb hl
      induction ks generalizing ts with
      | nil => cases ts with
        | nil => simp
        | cons t ts => simp [okKids]
      | cons k ks ih => cases ts with
        | nil => simp [okKids]
        | cons t ts =>
          simp only [okKids, Bool.and_eq_true, List.length_cons]
          intro hb hl
          exact ih hb.2 (by omega)
end Go.Proofs.Ytmahbocelckmcaa.Tree

/- What is told of lists of nodes, as plain functions. By an AI agent. -/
namespace Go.Proofs.Ytmahbocelckmcaa.Tree
open Go.RowKit

deriving instance DecidableEq for Nd

/-! ### a list that may be: its kids stand ahead -/
theorem may_all {l : List Nd} (h : mayL l = true) : ∃ st, mayUpTo l l.length = some st ∧ st.length = 1 := by
  unfold mayL at h
  cases hs : mayUpTo l l.length with
  | none => rw [hs] at h; cases h
  | some st => rw [hs] at h; exact ⟨st, rfl, of_decide_eq_true h⟩
theorem upTo_some {l : List Nd} {i : Nat} (h : (mayUpTo l l.length).isSome = true) (hi : i ≤ l.length) : ∃ st, mayUpTo l i = some st := by
  cases hs : mayUpTo l i with
  | some st => exact ⟨st, rfl⟩
  | none =>
    rw [upTo_none l i hs l.length hi] at h
    cases h
theorem may_ne {l : List Nd} (h : mayL l = true) : 0 < l.length := by
  obtain ⟨st, h1, h2⟩ := may_all h
  have := (upTo_lt l l.length st h1).2
  omega
/-- What a step asks of a node. -/
theorem may_node {l : List Nd} (h : mayL l = true) {i : Nat} {n : Nd} (hi : l[i]? = some n) :
    ∃ st, mayUpTo l i = some st ∧ okShape n st.length = true ∧ okSpan n = true ∧ okKids l n n.kids (st.drop (st.length - n.kids.length)) = true := by
  obtain ⟨s, h1, -⟩ := may_all h
  have hlt : i < l.length := (List.getElem?_eq_some_iff.1 hi).1
  obtain ⟨st, hst⟩ := upTo_some (l := l) (i := i) (by rw [h1]; rfl) (Nat.le_of_lt hlt)
  obtain ⟨st', hst'⟩ := upTo_some (l := l) (i := i + 1) (by rw [h1]; rfl) hlt
  rw [mayUpTo, hst] at hst'
  have hs : mayStep l st i = some st' := hst'
  unfold mayStep at hs
  rw [hi] at hs
  simp only at hs
  split at hs
  · rename_i hc; exact ⟨st, hst, hc⟩
  · cases hs
theorem shape_parts {n : Nd} {k : Nat} (h : okShape n k = true) : 0 ≤ arity n.kind ∧ (n.kids.length : Int) = arity n.kind ∧ n.kids.length ≤ k ∧ (n.kind = 3 → Lex.nameS n.name.data.toList = true) ∧ (n.kind ≠ 3 → n.name.data.toList = []) := by
  unfold okShape at h
  simp only [Bool.and_eq_true, Bool.or_eq_true, decide_eq_true_eq] at h
  obtain ⟨h1, h2, h3, h4, h5⟩ := h
  refine ⟨h1, h2, by omega, fun h3 => h4.resolve_left (fun x => x h3), fun h3 => h5.resolve_left h3⟩
/-- The kids of a node of a list that may be stand ahead of it. -/
theorem may_kids {l : List Nd} (h : mayL l = true) {i : Nat} {n : Nd} (hi : l[i]? = some n) : ∀ k ∈ n.kids, 0 ≤ k ∧ k < (i : Int) := by
  obtain ⟨st, h1, h2, h3, h4⟩ := may_node h hi
  have hlt := (upTo_lt l i st h1).1
  have hk := (shape_parts h2).2.2.1
  intro k hm
  obtain ⟨j, hj, rfl⟩ := List.getElem_of_mem hm
  have hl : n.kids.length = (st.drop (st.length - n.kids.length)).length := by rw [List.length_drop]; omega
  have hj2 : j < (st.drop (st.length - n.kids.length)).length := by omega
  have := (okKids_at _ _ hl).1 h4 j _ _ (List.getElem?_eq_getElem hj) (List.getElem?_eq_getElem hj2)
  unfold okKid at this
  simp only [Bool.and_eq_true, decide_eq_true_eq] at this
  have h5 := hlt _ (List.mem_of_mem_drop (List.getElem_mem hj2))
  rw [this.1]
  omega
theorem may_arity {l : List Nd} (h : mayL l = true) {i : Nat} {n : Nd} (hi : l[i]? = some n) : n.kids.length ≤ 2 := by
  obtain ⟨st, h1, h2, -, -⟩ := may_node h hi
  obtain ⟨-, h3, -⟩ := shape_parts h2
  unfold arity at h3
  split at h3
  · omega
  · split at h3
    · omega
    · split at h3 <;> omega

theorem kid_nat {l : List Nd} (h : mayL l = true) {i : Nat} {n : Nd} (hi : l[i]? = some n) {j : Nat} (hj : j < n.kids.length) : ∃ t : Nat, n.kids[j]?.getD 0 = (t : Int) ∧ t < i ∧ n.kids.take (j + 1) = n.kids.take j ++ [(t : Int)] := by
  have := may_kids h hi n.kids[j] (List.getElem_mem hj)
  obtain ⟨t, ht⟩ := Int.eq_ofNat_of_zero_le this.1
  refine ⟨t, by rw [List.getElem?_eq_getElem hj]; exact ht, by omega, ?_⟩
  rw [List.take_succ_eq_append_getElem hj, ht]

/-! ### the functions -/
def lastKind (l : List Nd) : Int := (l.getLast?.map (·.kind)).getD 0
def formL (l : List Nd) : Bool := mayL l && formKind (lastKind l)
def regL (l : List Nd) : Bool := mayL l && !formKind (lastKind l)
def sweet (k : Int) : Bool := decide (k = 7) || decide (8 ≤ k ∧ k ≤ 15)
def plainL (l : List Nd) : Bool := (l.all fun n => !sweet n.kind) && mayL l
def sameL (a b : List Nd) : Bool := mayL a && (mayL b && decide (a = b))
/-- The depths of the nodes, one by one. -/
def deep (ds : List Int) (ks : List Int) : Int := ks.foldl (fun m k => max m (ds[k.toNat]?.getD 0)) 0
def depths (l : List Nd) : List Int := l.foldl (fun ds n => ds ++ [deep ds n.kids + 1]) []
def depthL (l : List Nd) : Int := if mayL l = true then (depths l).getLast?.getD 0 else 0
/-- Where what is below a node begins. -/
def startF (l : List Nd) : Nat → Nat → Nat
  | 0, i => i
  | f + 1, i => match l[i]? with
    | none => i
    | some n => match n.kids with
      | [] => i
      | k :: _ => startF l f k.toNat
def startL (l : List Nd) (i : Nat) : Nat := startF l (i + 1) i
def shiftNd (d : Int) (n : Nd) : Nd := { n with kids := n.kids.map (· + d) }
def partL (l : List Nd) (i : Int) : List Nd :=
  if mayL l = true ∧ 0 ≤ i ∧ i < l.length then ((l.take (i.toNat + 1)).drop (startL l i.toNat)).map (shiftNd (-(startL l i.toNat : Int))) else []
def nameNext (out : List (List UInt8)) (n : Nd) : List (List UInt8) := if n.kind = 3 ∧ n.name.data.toList ∉ out then out ++ [n.name.data.toList] else out
def propNames (l : List Nd) : List (List UInt8) := l.foldl nameNext []
def namesL (l : List Nd) : List (List UInt8) := if mayL l = true then (propNames l).mergeSort (fun x y => decide (x ≤ y)) else []
def overL (n : Nd) (a b : List Nd) : List Nd :=
  a ++ b.map (shiftNd a.length) ++ [{ n with kids := (if a = [] then [] else [(a.length : Int) - 1]) ++ (if b = [] then [] else [(a.length : Int) + b.length - 1]) }]
def joinL (n : Nd) (kids : List (List Nd)) : List Nd :=
  if arity n.kind = kids.length ∧ (kids.all mayL) = true then
    (if mayL (overL n (kids.headD []) (kids.tail.getLastD [])) = true then overL n (kids.headD []) (kids.tail.getLastD []) else [])
  else []
theorem depths_snoc (l : List Nd) (n : Nd) : depths (l ++ [n]) = depths l ++ [deep (depths l) n.kids + 1] := by
  unfold depths; rw [List.foldl_append]; rfl
theorem depths_len (l : List Nd) : (depths l).length = l.length := by
  have key : ∀ (l : List Nd) (ds : List Int), (l.foldl (fun ds n => ds ++ [deep ds n.kids + 1]) ds).length = ds.length + l.length := by
    intro l
    induction l with
    | nil => intro ds; rfl
    | cons n l ih =>
      intro ds
      rw [List.foldl_cons, ih, List.length_append, List.length_cons, List.length_nil, List.length_cons]
      omega
  have := key l []
  simpa [depths] using this
end Go.Proofs.Ytmahbocelckmcaa.Tree
