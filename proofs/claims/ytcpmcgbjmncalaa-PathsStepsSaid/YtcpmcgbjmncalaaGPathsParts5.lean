/-
  Lists of nodes in memory; what a list of nodes that came in reads as; spans compared by value; a slice from a place on. By an AI agent.
-/
import Derived.Test.YtcpmcgbjmncalaaChecked
import Derived.WalkKit
import Derived.WalkSpells
import Derived.Below
import Derived.Lib.Hide
import Derived.Test.YtcpmcgbjmncalaaGPathsParts1
import Derived.Deep.Slices
import Derived.Deep.Fields
import Derived.ChangeSame
import Derived.ChangeArms
import Derived.ChangeSlices
import Derived.Laws.StructEq
import Derived.IntWalk
import Derived.Deep.QuietTactic
import Derived.BigQuiet
/- Lists of nodes in memory; what a list of nodes that came in reads as. By an AI agent. -/
namespace Go.Proofs.Ytcpmcgbjmncalaa.Tree
open Go.RowKit Go.ChangeShapes Go.WideShapes Go.Deep Go.Proofs.Ytcpmcgbjmncalaa.Ints

/-- A node. -/
structure Nd where
  kind : Int
  name : ByteArray
  lo : Int
  hi : Int
  kids : List Int

def small64 (x : Int) : Prop := -9223372036854775808 ≤ x ∧ x ≤ 9223372036854775807
/-- Any block. -/
def Any : Nat → Prop := fun _ => True
/-- The five cells of a node, in blocks of S. -/
def NodeAt (S : Nat → Prop) (w : World) (b o : Nat) (n : Nd) : Prop :=
  w.cell? ⟨b, o, none⟩ = some (.int .i64 n.kind) ∧ w.cell? ⟨b, o + 1, none⟩ = some (.string n.name) ∧ w.cell? ⟨b, o + 2, none⟩ = some (.int .i64 n.lo) ∧ w.cell? ⟨b, o + 3, none⟩ = some (.int .i64 n.hi) ∧
    small64 n.kind ∧ small64 n.lo ∧ small64 n.hi ∧ n.name.size ≤ maxLen ∧
    ∃ (K : Option Addr) (c : Nat), w.cell? ⟨b, o + 4, none⟩ = some (.slice K n.kids.length c) ∧ Rd .i64 w K n.kids.length n.kids ∧ n.kids.length ≤ c ∧ c ≤ maxLen ∧ S b ∧ (∀ a, K = some a → 0 < n.kids.length → S a.block)
theorem NodeAt.keep {S : Nat → Prop} {w w' : World} {b o : Nat} {n : Nd} (h : NodeAt S w b o n) (hk : ∀ p u, S p.block → w.cell? p = some u → w'.cell? p = some u) : NodeAt S w' b o n := by
  obtain ⟨h1, h2, h3, h4, h5, h6, h7, h8, K, c, h9, h10, h11, h12, h13, h14⟩ := h
  refine ⟨hk _ _ h13 h1, hk _ _ h13 h2, hk _ _ h13 h3, hk _ _ h13 h4, h5, h6, h7, h8, K, c, hk _ _ h13 h9, ⟨h10.1, h10.2.1, fun h0 => ?_⟩, h11, h12, h13, h14⟩
  obtain ⟨b', off, e, hc⟩ := h10.2.2 h0
  exact ⟨b', off, e, fun j hj => hk ⟨b', off + j, none⟩ _ (h14 ⟨b', off, none⟩ e h0) (hc j hj)⟩
theorem NodeAt.mono {S S' : Nat → Prop} {w : World} {b o : Nat} {n : Nd} (h : NodeAt S w b o n) (hs : ∀ b, b < w.heap.size → S b → S' b) : NodeAt S' w b o n := by
  obtain ⟨h1, h2, h3, h4, h5, h6, h7, h8, K, c, h9, h10, h11, h12, h13, h14⟩ := h
  refine ⟨h1, h2, h3, h4, h5, h6, h7, h8, K, c, h9, h10, h11, h12, hs _ (World.block_lt_of_cell? w _ h1) h13, fun a e h0 => ?_⟩
  obtain ⟨b', off, e', hc⟩ := h10.2.2 h0
  subst e
  injection e' with e'
  subst e'
  exact hs _ (World.block_lt_of_cell? w _ (hc 0 h0)) (h14 _ rfl h0)
theorem NodeAt.below {S : Nat → Prop} {w w' : World} {b o : Nat} {n : Nd} (h : NodeAt S w b o n) (hb : Below w.heap.size w w') : NodeAt S w' b o n :=
  h.keep fun p _ _ hp => (hb.cell (World.block_lt_of_cell? w p hp)).trans hp
/-- The slice of address A reads as the nodes l, in blocks of S. -/
def Nodes (S : Nat → Prop) (w : World) (A : Option Addr) (l : List Nd) : Prop :=
  0 < l.length → ∃ b off, A = some ⟨b, off, none⟩ ∧ ∀ (j : Nat) (n : Nd), l[j]? = some n → NodeAt S w b (off + 5 * j) n
theorem Nodes.keep {S : Nat → Prop} {w w' : World} {A : Option Addr} {l : List Nd} (h : Nodes S w A l) (hk : ∀ p u, S p.block → w.cell? p = some u → w'.cell? p = some u) : Nodes S w' A l := fun h0 => by
  obtain ⟨b, off, h1, h2⟩ := h h0
  exact ⟨b, off, h1, fun j n hn => (h2 j n hn).keep hk⟩
theorem Nodes.mono {S S' : Nat → Prop} {w : World} {A : Option Addr} {l : List Nd} (h : Nodes S w A l) (hs : ∀ b, b < w.heap.size → S b → S' b) : Nodes S' w A l := fun h0 => by
  obtain ⟨b, off, h1, h2⟩ := h h0
  exact ⟨b, off, h1, fun j n hn => (h2 j n hn).mono hs⟩
theorem Nodes.any {S : Nat → Prop} {w : World} {A : Option Addr} {l : List Nd} (h : Nodes S w A l) : Nodes Any w A l := h.mono fun _ _ _ => trivial
theorem Nodes.below {S : Nat → Prop} {w w' : World} {A : Option Addr} {l : List Nd} (h : Nodes S w A l) (hb : Below w.heap.size w w') : Nodes S w' A l :=
  h.keep fun p _ _ hp => (hb.cell (World.block_lt_of_cell? w p hp)).trans hp
theorem Nodes.nil (S : Nat → Prop) (w : World) (A : Option Addr) : Nodes S w A [] := fun h => by simp at h

theorem structNode : Try.prog.underlying 42 = some (.struct (Try.prog.fieldsOf 42)) := by kernel_rfl
theorem fieldsNode : (Try.prog.fieldsOf 42).toList.map (fun f => (f.type, f.offset)) = [(3, 0), (9, 1), (40, 2), (27, 4)] := by kernel_rfl
theorem structSpan : Try.prog.underlying 40 = some (.struct (Try.prog.fieldsOf 40)) := by kernel_rfl
theorem fieldsSpan : (Try.prog.fieldsOf 40).toList.map (fun f => (f.type, f.offset)) = [(3, 0), (3, 1)] := by kernel_rfl
theorem cellsNode : Try.prog.cellsOf 42 = 5 := by kernel_rfl
theorem cellsSpan : Try.prog.cellsOf 40 = 2 := by kernel_rfl
theorem cellsInt : Try.prog.cellsOf 3 = 1 := by kernel_rfl
theorem cellsStr : Try.prog.cellsOf 9 = 1 := by kernel_rfl
theorem cellsInts : Try.prog.cellsOf 27 = 1 := by kernel_rfl

theorem field_at {fs : Array Field} {l : List (TypeId × Nat)} (h : fs.toList.map (fun f => (f.type, f.offset)) = l) {i : Nat} {t : TypeId} {o : Nat} (hi : l[i]? = some (t, o)) : ∃ f, fs[i]? = some f ∧ f.type = t ∧ f.offset = o := by
  rw [← h, List.getElem?_map] at hi
  obtain ⟨f, hf, he⟩ := Option.map_eq_some_iff.1 hi
  simp only [Prod.mk.injEq] at he
  exact ⟨f, by simpa using hf, he.1, he.2⟩
theorem one_of {cs : List Value} {o : Nat} {v : Value} (h : (cs.drop o).take 1 = [v]) : cs[o]? = some v := by
  have h1 := congrArg (·[0]?) h
  simpa using h1

section
variable {H : Type} {enc : TypeId × Value → H} {w : World}
/-- A node's five values. -/
def NodeVals (w : World) (cs : List Value) (n : Nd) (K : Option Addr) (c : Nat) : Prop :=
  cs[0]? = some (.int .i64 n.kind) ∧ cs[1]? = some (.string n.name) ∧ cs[2]? = some (.int .i64 n.lo) ∧ cs[3]? = some (.int .i64 n.hi) ∧ cs[4]? = some (.slice K n.kids.length c) ∧
    small64 n.kind ∧ small64 n.lo ∧ small64 n.hi ∧ n.name.size ≤ maxLen ∧ Rd .i64 w K n.kids.length n.kids ∧ n.kids.length ≤ c ∧ c ≤ maxLen
/-- One node that is read. -/
theorem node_vals {fuel : Nat} {cs : List Value} {x : DataW H × List MemPlace} (h : DataW.trod enc Try.prog w 0 (fun _ => true) true fuel 42 cs = some x) : ∃ n K c, NodeVals w cs n K c := by
  obtain ⟨ys, m, -, -, -, hlen, hf⟩ := DataW.trod_struct structNode h
  have hget : ∀ i, i < (Try.prog.fieldsOf 42).size → ∃ y, ys[i]? = some y := fun i hi => ⟨_, List.getElem?_eq_getElem (by omega)⟩
  have hsz : (Try.prog.fieldsOf 42).size = 4 := by
    have := congrArg List.length fieldsNode
    simpa using this
  obtain ⟨f0, g0, t0, o0⟩ := field_at fieldsNode (i := 0) rfl
  obtain ⟨f1, g1, t1, o1⟩ := field_at fieldsNode (i := 1) rfl
  obtain ⟨f2, g2, t2, o2⟩ := field_at fieldsNode (i := 2) rfl
  obtain ⟨f3, g3, t3, o3⟩ := field_at fieldsNode (i := 3) rfl
  obtain ⟨y0, e0⟩ := hget 0 (by omega)
  obtain ⟨y1, e1⟩ := hget 1 (by omega)
  obtain ⟨y2, e2⟩ := hget 2 (by omega)
  obtain ⟨y3, e3⟩ := hget 3 (by omega)
  have k0 := hf 0 f0 g0
  have k1 := hf 1 f1 g1
  have k2 := hf 2 f2 g2
  have k3 := hf 3 f3 g3
  rw [t0, o0, e0, cellsInt] at k0
  rw [t1, o1, e1, cellsStr] at k1
  rw [t2, o2, e2, cellsSpan] at k2
  rw [t3, o3, e3, cellsInts] at k3
  obtain ⟨kd, c0, -, w0⟩ := DataW.trod_int Try.underlying3 k0
  obtain ⟨nm, c1, -, w1⟩ := DataW.trod_string Try.underlying9 k1
  obtain ⟨zs, m2, -, -, -, hlen2, hf2⟩ := DataW.trod_struct structSpan k2
  have hsz2 : (Try.prog.fieldsOf 40).size = 2 := by
    have := congrArg List.length fieldsSpan
    simpa using this
  obtain ⟨f4, g4, t4, o4⟩ := field_at fieldsSpan (i := 0) rfl
  obtain ⟨f5, g5, t5, o5⟩ := field_at fieldsSpan (i := 1) rfl
  have e4 : ∃ y, zs[0]? = some y := ⟨_, List.getElem?_eq_getElem (by omega)⟩
  have e5 : ∃ y, zs[1]? = some y := ⟨_, List.getElem?_eq_getElem (by omega)⟩
  obtain ⟨y4, e4⟩ := e4
  obtain ⟨y5, e5⟩ := e5
  have k4 := hf2 0 f4 g4
  have k5 := hf2 1 f5 g5
  rw [t4, o4, e4, cellsInt] at k4
  rw [t5, o5, e5, cellsInt] at k5
  obtain ⟨lo, c4, -, w4⟩ := DataW.trod_int Try.underlying3 k4
  obtain ⟨hi, c5, -, w5⟩ := DataW.trod_int Try.underlying3 k5
  have d0 := one_of c0
  have d1 := one_of c1
  have d4 : cs[2]? = some (.int .i64 lo) := by
    have := one_of c4
    simpa [List.getElem?_take, List.getElem?_drop] using this
  have d5 : cs[3]? = some (.int .i64 hi) := by
    have := one_of c5
    simpa [List.getElem?_take, List.getElem?_drop] using this
  rcases open_ints Try.underlying27 Try.underlying3 cellsInt k3 with ⟨hcs, -⟩ | ⟨a, len, cap, us, hcs, -, hl, hm, hz, -, hcell, hwf⟩
  · have d3 := one_of hcs
    exact ⟨⟨kd, nm, lo, hi, []⟩, none, 0, d0, d1, d4, d5, d3, wf_i64 w0, wf_i64 w4, wf_i64 w5, w1, Rd.nil _ _ _, Nat.le_refl _, by decide⟩
  · have d3 := one_of hcs
    obtain ⟨hr, hl', hm'⟩ := rd_of (k := .i64) (w := w) (A := some a) (zs := us) (len := len) (cap := cap) (Or.inr ⟨a, rfl, hl, hm, by simpa using hz, hcell, hwf⟩)
    have hlen3 : (us.take len).length = len := by rw [List.length_take]; have : us.length = cap := by simpa using hz
                                                  omega
    refine ⟨⟨kd, nm, lo, hi, us.take len⟩, some a, cap, d0, d1, d4, d5, ?_, wf_i64 w0, wf_i64 w4, wf_i64 w5, w1, ?_, ?_, hm⟩
    · simp only [hlen3]; exact d3
    · simp only [hlen3]; exact hr
    · simp only [hlen3]; exact hl

theorem node_of {fuel : Nat} {cs : List Value} {x : DataW H × List MemPlace} {b o : Nat} (h : DataW.trod enc Try.prog w 0 (fun _ => true) true fuel 42 cs = some x)
    (hc : ∀ j, j < 5 → w.cell? ⟨b, o + j, none⟩ = cs[j]?) : ∃ n, NodeAt Any w b o n := by
  obtain ⟨n, K, c, d0, d1, d2, d3, d4, h5, h6, h7, h8, h9, h10, h11⟩ := node_vals h
  exact ⟨n, (hc 0 (by omega)).trans d0, (hc 1 (by omega)).trans d1, (hc 2 (by omega)).trans d2, (hc 3 (by omega)).trans d3, h5, h6, h7, h8, K, c, (hc 4 (by omega)).trans d4, h9, h10, h11, trivial, fun _ _ _ => trivial⟩
/-- What a node's values are good for. -/
def NodeOk (w : World) (n : Nd) (K : Option Addr) (c : Nat) : Prop :=
  small64 n.kind ∧ small64 n.lo ∧ small64 n.hi ∧ n.name.size ≤ maxLen ∧ Rd .i64 w K n.kids.length n.kids ∧ n.kids.length ≤ c ∧ c ≤ maxLen
set_option maxRecDepth 100000 in
/-- A list of nodes that came in. -/
theorem nodes_of {len cap : Nat} {A : Option Addr} {d : DataW H} {p : List MemPlace} (h : DataW.Trod enc Try.prog w 0 (fun _ => true) true 22 (.slice A len cap) d p) :
    ∃ l : List Nd, l.length = len ∧ Nodes Any w A l ∧ len ≤ cap ∧ cap ≤ maxLen := by
  obtain ⟨fuel, hf⟩ := h
  rcases open_slice Try.underlying22 hf with ⟨hcs, -⟩ | ⟨a, l', c', m, n, D, Pl, hcs, -, hl, hm, hmm, -, hi⟩
  · simp [Value.cells] at hcs
    obtain ⟨rfl, rfl, rfl⟩ := hcs
    exact ⟨[], rfl, fun h0 => by simp at h0, Nat.le_refl _, by decide⟩
  · simp [Value.cells] at hcs
    obtain ⟨rfl, rfl, rfl⟩ := hcs
    have hm' : m = cap := by simpa using hmm
    have hone : ∀ i, i < len → ∃ nd, ∃ b off, a = ⟨b, off, none⟩ ∧ NodeAt Any w b (off + 5 * i) nd := fun i hi' => by
      obtain ⟨cs', hc, ht⟩ := hi i (by omega)
      rw [cellsNode] at hc
      obtain ⟨-, hcl, hat⟩ := World.cells?_some hc
      obtain ⟨b, off, spot⟩ := a
      obtain ⟨cs0, hc0, -⟩ := hi 0 (by omega)
      rw [cellsNode] at hc0
      obtain ⟨-, hcl0, hat0⟩ := World.cells?_some hc0
      have h0 := hat0 0 (by omega)
      have hv : cs0[0]? = some (cs0[0]'(by omega)) := List.getElem?_eq_getElem (by omega)
      rw [hv, add_add] at h0
      have hspot : spot = none := by simpa [Addr.add] using World.cell?_spot h0
      subst hspot
      obtain ⟨nd, hn⟩ := node_of (b := b) (o := off + 5 * i) ht (fun j hj => by
        rw [← hat j (by omega), add_add]
        congr 1
        unfold Addr.add
        split <;> simp_all <;> omega)
      exact ⟨nd, b, off, rfl, hn⟩
    refine ⟨(List.range len).map fun i => if h : i < len then Classical.choose (hone i h) else ⟨0, ⟨#[]⟩, 0, 0, []⟩, by simp, fun h0 => ?_, hl, hm⟩
    simp only [List.length_map, List.length_range] at h0
    obtain ⟨-, b, off, rfl, -⟩ := hone 0 h0
    refine ⟨b, off, rfl, fun j n hn => ?_⟩
    have hj : j < len := by
      have := (List.getElem?_eq_some_iff.1 hn).1
      simpa using this
    simp only [List.getElem?_map, List.getElem?_range hj, Option.map_some, Option.some.injEq, dif_pos hj] at hn
    subst hn
    obtain ⟨b', off', e, hn⟩ := Classical.choose_spec (hone j hj)
    injection e with e1 e2
    subst e1; subst e2
    exact hn
end
end Go.Proofs.Ytcpmcgbjmncalaa.Tree

/- Spans compared by value; a slice from a place on. By an AI agent. -/
namespace Go.Proofs.Ytcpmcgbjmncalaa.Tree
open Go.RowKit Go.Proofs.Ytcpmcgbjmncalaa.Ints

theorem fieldsSpan3 : (Try.prog.fieldsOf 40).toList.map (fun f => (f.name, f.type, f.offset)) = [("Lo", 3, 0), ("Hi", 3, 1)] := by kernel_rfl
theorem stoodSpan : Try.prog.stoodInHeld 40 = false := by kernel_rfl
theorem guardSpan : Try.prog.eqGuardType Try.prog.depth 40 = false := by kernel_rfl
theorem part_int {P : Program} (w : World) (t : TypeId) (cs : Array Value) (o : Nat) (v : Value) {k : IntKind} (ht : P.underlying t = some (.int k)) (hv : cs[o]? = some v) : (part t cs o).run P w = .ok v w := by
  simp [part, isAgg, run_underlying ht, hv]
set_option maxRecDepth 100000 in
theorem span_equal (a b c d : Int) (w : World) : (Op.equalIn 10000 40 (.agg #[.int .i64 a, .int .i64 b]) (.agg #[.int .i64 c, .int .i64 d])).run Try.prog w = .ok (decide (a = c ∧ b = d)) w := by
  rw [run_equalIn_struct w _ _ _ _ structSpan stoodSpan]
  generalize hfs : (Try.prog.fieldsOf 40).toList = fs
  have h := fieldsSpan3
  rw [hfs] at h
  match fs, h with
  | [f0, f1], h =>
    simp only [List.map_cons, List.map_nil, List.cons.injEq, Prod.mk.injEq, and_true] at h
    obtain ⟨⟨n0, t0, o0⟩, n1, t1, o1⟩ := h
    have q0 : ∀ (W : World) (x y : Value), (part 3 #[x, y] 0).run Try.prog W = .ok x W := fun W x y => part_int W _ _ 0 x Try.underlying3 rfl
    have q1 : ∀ (W : World) (x y : Value), (part 3 #[x, y] 1).run Try.prog W = .ok y W := fun W x y => part_int W _ _ 1 y Try.underlying3 rfl
    have e0 : ∀ (W : World) (x y : Int), (Op.equalIn 9999 3 (.int .i64 x) (.int .i64 y)).run Try.prog W = .ok (x == y) W := fun W x y => run_equalIn_int W 9998 _ .i64 .i64 x y Try.underlying3
    have hk : ∀ x y : Int, (x == y) = decide (x = y) := fun x y => by
      rw [Bool.eq_iff_iff, beq_iff_eq, decide_eq_true_iff]
    have hfin : decide (a = c ∧ b = d) = (decide (a = c) && decide (b = d)) := Bool.decide_and _ _
    rw [hfin]
    simp only [Op.eqFields, n0, t0, o0, n1, t1, o1, q0, q1, e0, hk, Sem.run_bind, Result.andThen_ok, ne_eq, String.reduceEq, not_false_eq_true, if_true, Sem.run_ite, Sem.run_pure]
    generalize decide (a = c) = b0
    generalize decide (b = d) = b1
    cases b0 <;> cases b1 <;> rfl
set_option maxRecDepth 100000 in
theorem span_neq (a b c d : Int) (w : World) : (binOp .neq 40 (.agg #[.int .i64 a, .int .i64 b]) (.agg #[.int .i64 c, .int .i64 d])).run Try.prog w = .ok (.bool (!(decide (a = c ∧ b = d)))) w := by
  rw [run_neq_struct, span_equal]
  rfl
set_option maxRecDepth 100000 in
theorem span_eql (a b c d : Int) (w : World) : (binOp .eql 40 (.agg #[.int .i64 a, .int .i64 b]) (.agg #[.int .i64 c, .int .i64 d])).run Try.prog w = .ok (.bool (decide (a = c ∧ b = d))) w := by
  rw [run_eql_struct, span_equal]
  rfl

/-- Where a part of a slice begins. -/
def fromAddr (A : Option Addr) (cap k size : Nat) : Option Addr := if cap = k then A else A.map (·.add (k * size))
set_option maxRecDepth 100000 in
theorem slice_from {P : Program} (t : TypeId) (ht : P.underlying t = some (.slice (P.elem t))) (size : Nat) (hs : (P.info? (P.elem t)).map (·.size) = some size) (A : Option Addr) (n cap k : Nat) (hk : k ≤ n) (W : World) :
    (Instr.slice t (.slice A n cap) (some (.int .i64 (k : Int))) none none).run P W = .ok (.slice (fromAddr A cap k size) (n - k) (cap - k)) W := by
  rw [run_slice_l W t A n cap ht .i64 (k : Int) (by omega) (by omega)]
  obtain ⟨i, hi, hz⟩ := Option.map_eq_some_iff.1 hs
  simp [sizeOf, typeInfo, hi, hz, Result.andThen, sliced, fromAddr]
theorem Rd.from {k : IntKind} {w : World} {A : Option Addr} {n cap j : Nat} {zs : List Int} (h : Rd k w A n zs) (hn : n ≤ cap) (hj : j ≤ n) : Rd k w (fromAddr A cap j 1) (n - j) (zs.drop j) := by
  unfold fromAddr
  by_cases hc : cap = j
  · rw [if_pos hc]
    have e : n - j = 0 := by omega
    have e2 : zs.drop j = [] := List.drop_eq_nil_of_le (by rw [h.len]; omega)
    rw [e, e2]
    exact Rd.nil _ _ _
  · rw [if_neg hc, Nat.mul_one]
    by_cases h0 : n = 0
    · have e : n - j = 0 := by omega
      have e2 : zs.drop j = [] := List.drop_eq_nil_of_le (by rw [h.len]; omega)
      rw [e, e2]
      exact Rd.nil _ _ _
    · obtain ⟨b, off, rfl, -⟩ := h.cell (by omega)
      have := h.drop hj
      have e : (⟨b, off, none⟩ : Addr).add j = ⟨b, off + j, none⟩ := by unfold Addr.add; split <;> simp_all
      rw [Option.map_some, e]
      exact this
theorem fcell {W w1 : World} (hb : Below W.heap.size W w1) : (∀ b o, b < W.heap.size → w1.cell? ⟨b, o, none⟩ = W.cell? ⟨b, o, none⟩) ∧ (∀ b o, b < W.heap.size → w1.frozen? ⟨b, o, none⟩ = W.frozen? ⟨b, o, none⟩) :=
  ⟨fun b o h => hb.cell (p := ⟨b, o, none⟩) h, fun b o h => hb.frozen (p := ⟨b, o, none⟩) h⟩
/-- The cells of a node that lies in a box: two of them, behind whatever is laid later. -/
theorem below_cell {w w' : World} {b o : Nat} {u : Value} (hb : Below w.heap.size w w') (h : w.cell? ⟨b, o, none⟩ = some u) : w'.cell? ⟨b, o, none⟩ = some u :=
  (hb.cell (World.block_lt_of_cell? w _ h)).trans h
theorem box_cell {w : World} {cs : Array Value} {T : TypeId} (o : Nat) (u : Value) (h : cs[o]? = some u) : (w.alloc (.cells cs T)).cell? ⟨w.heap.size, o, none⟩ = some u := by
  rw [cell_of_row _ w.heap.size o _ T (0, 0) (heap_alloc_new w _)]
  exact h
theorem below_row {w w' : World} {base : Nat} {e : TypeId} {size : Nat} {v : Value} {n : Nat} {xs : List Value} (h : w.ownsRow base e size v n xs) (hb : Below w.heap.size w w') : w'.ownsRow base e size v n xs :=
  h.kept (row := none) ⟨hb.os, hb.tape, hb.output, hb.size, fun i hi _ => hb.block i hi⟩ (by cases v.ownBlock <;> simp)
theorem below_drewN {B : Nat} {a w : World} (h : Below B a w) (n : Nat) : Below B a (w.drewN n) := ⟨h.os, h.tape, h.output, h.size, h.block⟩
end Go.Proofs.Ytcpmcgbjmncalaa.Tree
