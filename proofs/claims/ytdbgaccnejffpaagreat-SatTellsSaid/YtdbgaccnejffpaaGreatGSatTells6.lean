/-
  Lists of nodes in memory; what a list of nodes that came in reads as; spans compared by value; a slice from a place on. By an AI agent.
  Rows of nodes of the call's own: what they read as, append of one and of many. By an AI agent.
  Two nodes are one, or not. By an AI agent.
  Tokens in plain lists of bytes. Tokens in plain lists of bytes: blanks, numbers, the laws' own texts. Tokens in plain lists of bytes: a number as it is written; one word, blanks alone. Tokens in plain lists of bytes: what each branch of a walk says of the piece that begins. Rows of tokens in memory: append of one; what a walk reads. Texts, byte by byte: what the walks share. The walks of the reference's small, digit and run. The walks of the reference's Reserved and Name.
    Made of several texts by wip/tools/mergetpl.py. By an AI agent.
-/
import Derived.Test.YtdbgaccnejffpaaGreatChecked
import Derived.WalkKit
import Derived.WalkSpells
import Derived.Below
import Derived.Lib.Hide
import Derived.Test.YtdbgaccnejffpaaGreatGSatTells1
import Derived.Deep.Slices
import Derived.Deep.Fields
import Derived.ChangeSame
import Derived.ChangeArms
import Derived.ChangeSlices
import Derived.Laws.StructEq
import Derived.IntWalk
import Derived.Deep.QuietTactic
import Derived.BigQuiet
import Derived.Maps.AppendAt
import Derived.Laws.AppendOwnNone
import Derived.Lib.ItoaNum
import Derived.Laws.AppendOwn
import Derived.Sort.OwnSorted
import Derived.WalkLawsBesides
import Derived.Lib.MinMax
import Derived.OwnWalk
/- Lists of nodes in memory; what a list of nodes that came in reads as. By an AI agent. -/
namespace Go.Proofs.YtdbgaccnejffpaaGreat.Tree
open Go.RowKit Go.ChangeShapes Go.WideShapes Go.Deep Go.Proofs.YtdbgaccnejffpaaGreat.Ints
structure Nd where
 kind : Int
 name : ByteArray
 lo : Int
 hi : Int
 kids : List Int
def small64 (x : Int) : Prop := -9223372036854775808 ≤ x ∧ x ≤ 9223372036854775807
def Any : Nat → Prop := fun _ => True
def NodeAt (S : Nat → Prop) (w : World) (b o : Nat) (n : Nd) : Prop :=
 w.cell? ⟨b, o, none⟩ = some (.int .i64 n.kind) ∧ w.cell? ⟨b, o + 1, none⟩ = some (.string n.name) ∧ w.cell? ⟨b, o + 2, none⟩ = some (.int .i64 n.lo) ∧ w.cell? ⟨b, o + 3, none⟩ = some (.int .i64 n.hi) ∧
  small64 n.kind ∧ small64 n.lo ∧ small64 n.hi ∧ n.name.size ≤ maxLen ∧
  ∃ (K : Option Addr) (c : Nat), w.cell? ⟨b, o + 4, none⟩ = some (.slice K n.kids.length c) ∧ Rd .i64 w K n.kids.length n.kids ∧ n.kids.length ≤ c ∧ c ≤ maxLen ∧ S b ∧ (∀ a, K = some a → 0 < n.kids.length → S a.block)
theorem NodeAt.keep {S : Nat → Prop} {w w' : World} {b o : Nat} {n : Nd} (h : NodeAt S w b o n) (hk : ∀ p u, S p.block → w.cell? p = some u → w'.cell? p = some u) : NodeAt S w' b o n := by
 obtain ⟨h1, h2, h3, h4, h5, h6, h7, h8, K, c, h9, h10, h11, h12, h13, h14⟩ := h
 refine ⟨hk _ _ h13 h1, hk _ _ h13 h2, hk _ _ h13 h3, hk _ _ h13 h4, h5, h6, h7, h8, K, c, hk _ _ h13 h9, ⟨h10.1, h10.2.1, fun h0 => ?_⟩, h11, h12, h13, h14⟩
 obtain ⟨b', off, e, hc⟩ := h10.2.2 h0
 exact ⟨b', off, e, fun j hj => hk ⟨b', off + j, none⟩ _ (h14 ⟨b', off, none⟩ e h0) (hc j hj)⟩
theorem NodeAt.mono {S S' : Nat → Prop} {w : World} {b o : Nat} {n : Nd} (h : NodeAt S w b o n) (hs : ∀ b, b < w.heap.size → S b → S' b) : NodeAt S' w b o n := by
 obtain ⟨h1, h2, h3, h4, h5, h6, h7, h8, K, c, h9, h10, h11, h12, h13, h14⟩ := h
 refine ⟨h1, h2, h3, h4, h5, h6, h7, h8, K, c, h9, h10, h11, h12, hs _ (World.block_lt_of_cell? w _ h1) h13, fun a e h0 => ?_⟩
 obtain ⟨b', off, e', hc⟩ := h10.2.2 h0
 subst e
 injection e' with e'
 subst e'
 exact hs _ (World.block_lt_of_cell? w _ (hc 0 h0)) (h14 _ rfl h0)
def Nodes (S : Nat → Prop) (w : World) (A : Option Addr) (l : List Nd) : Prop :=
 0 < l.length → ∃ b off, A = some ⟨b, off, none⟩ ∧ ∀ (j : Nat) (n : Nd), l[j]? = some n → NodeAt S w b (off + 5 * j) n
theorem Nodes.keep {S : Nat → Prop} {w w' : World} {A : Option Addr} {l : List Nd} (h : Nodes S w A l) (hk : ∀ p u, S p.block → w.cell? p = some u → w'.cell? p = some u) : Nodes S w' A l := fun h0 => by
 obtain ⟨b, off, h1, h2⟩ := h h0
 exact ⟨b, off, h1, fun j n hn => (h2 j n hn).keep hk⟩
theorem Nodes.mono {S S' : Nat → Prop} {w : World} {A : Option Addr} {l : List Nd} (h : Nodes S w A l) (hs : ∀ b, b < w.heap.size → S b → S' b) : Nodes S' w A l := fun h0 => by
 obtain ⟨b, off, h1, h2⟩ := h h0
 exact ⟨b, off, h1, fun j n hn => (h2 j n hn).mono hs⟩
theorem Nodes.below {S : Nat → Prop} {w w' : World} {A : Option Addr} {l : List Nd} (h : Nodes S w A l) (hb : Below w.heap.size w w') : Nodes S w' A l :=
 h.keep fun p _ _ hp => (hb.cell (World.block_lt_of_cell? w p hp)).trans hp
theorem Nodes.nil (S : Nat → Prop) (w : World) (A : Option Addr) : Nodes S w A [] := fun h => by simp at h
theorem structNode : Tryz.prog.underlying 47 = some (.struct (Tryz.prog.fieldsOf 47)) := by kernel_rfl
theorem fieldsNode : (Tryz.prog.fieldsOf 47).toList.map (fun f => (f.type, f.offset)) = [(3, 0), (9, 1), (45, 2), (29, 4)] := by kernel_rfl
theorem structSpan : Tryz.prog.underlying 45 = some (.struct (Tryz.prog.fieldsOf 45)) := by kernel_rfl
theorem fieldsSpan : (Tryz.prog.fieldsOf 45).toList.map (fun f => (f.type, f.offset)) = [(3, 0), (3, 1)] := by kernel_rfl
theorem cellsNode : Tryz.prog.cellsOf 47 = 5 := by kernel_rfl
theorem cellsSpan : Tryz.prog.cellsOf 45 = 2 := by kernel_rfl
theorem cellsInt : Tryz.prog.cellsOf 3 = 1 := by kernel_rfl
theorem cellsStr : Tryz.prog.cellsOf 9 = 1 := by kernel_rfl
theorem cellsInts : Tryz.prog.cellsOf 29 = 1 := by kernel_rfl
theorem field_at {fs : Array Field} {l : List (TypeId × Nat)} (h : fs.toList.map (fun f => (f.type, f.offset)) = l) {i : Nat} {t : TypeId} {o : Nat} (hi : l[i]? = some (t, o)) : ∃ f, fs[i]? = some f ∧ f.type = t ∧ f.offset = o := by
 rw [← h, List.getElem?_map] at hi
 obtain ⟨f, hf, he⟩ := Option.map_eq_some_iff.1 hi
 simp only [Prod.mk.injEq] at he
 exact ⟨f, by simpa using hf, he.1, he.2⟩
theorem one_of {cs : List Value} {o : Nat} {v : Value} (h : (cs.drop o).take 1 = [v]) : cs[o]? = some v := by
 have h1 := congrArg (·[0]?) h
 simpa using h1
section
variable {H : Type} {enc : TypeId × Value → H} {w : World}
def NodeVals (w : World) (cs : List Value) (n : Nd) (K : Option Addr) (c : Nat) : Prop :=
 cs[0]? = some (.int .i64 n.kind) ∧ cs[1]? = some (.string n.name) ∧ cs[2]? = some (.int .i64 n.lo) ∧ cs[3]? = some (.int .i64 n.hi) ∧ cs[4]? = some (.slice K n.kids.length c) ∧
  small64 n.kind ∧ small64 n.lo ∧ small64 n.hi ∧ n.name.size ≤ maxLen ∧ Rd .i64 w K n.kids.length n.kids ∧ n.kids.length ≤ c ∧ c ≤ maxLen
theorem node_vals {fuel : Nat} {cs : List Value} {x : DataW H × List MemPlace} (h : DataW.trod enc Tryz.prog w 0 (fun _ => true) true fuel 47 cs = some x) : ∃ n K c, NodeVals w cs n K c := by
 obtain ⟨ys, m, -, -, -, hlen, hf⟩ := DataW.trod_struct structNode h
 have hget : ∀ i, i < (Tryz.prog.fieldsOf 47).size → ∃ y, ys[i]? = some y := fun i hi => ⟨_, List.getElem?_eq_getElem (by omega)⟩
 have hsz : (Tryz.prog.fieldsOf 47).size = 4 := by
  have := congrArg List.length fieldsNode
  simpa using this
 obtain ⟨f0, g0, t0, o0⟩ := field_at fieldsNode (i := 0) rfl
 obtain ⟨f1, g1, t1, o1⟩ := field_at fieldsNode (i := 1) rfl
 obtain ⟨f2, g2, t2, o2⟩ := field_at fieldsNode (i := 2) rfl
 obtain ⟨f3, g3, t3, o3⟩ := field_at fieldsNode (i := 3) rfl
 obtain ⟨y0, e0⟩ := hget 0 (by omega)
 obtain ⟨y1, e1⟩ := hget 1 (by omega)
 obtain ⟨y2, e2⟩ := hget 2 (by omega)
 obtain ⟨y3, e3⟩ := hget 3 (by omega)
 have k0 := hf 0 f0 g0
 have k1 := hf 1 f1 g1
 have k2 := hf 2 f2 g2
 have k3 := hf 3 f3 g3
 rw [t0, o0, e0, cellsInt] at k0
 rw [t1, o1, e1, cellsStr] at k1
 rw [t2, o2, e2, cellsSpan] at k2
 rw [t3, o3, e3, cellsInts] at k3
 obtain ⟨kd, c0, -, w0⟩ := DataW.trod_int Tryz.underlying3 k0
 obtain ⟨nm, c1, -, w1⟩ := DataW.trod_string Tryz.underlying9 k1
 obtain ⟨zs, m2, -, -, -, hlen2, hf2⟩ := DataW.trod_struct structSpan k2
 have hsz2 : (Tryz.prog.fieldsOf 45).size = 2 := by
  have := congrArg List.length fieldsSpan
  simpa using this
 obtain ⟨f4, g4, t4, o4⟩ := field_at fieldsSpan (i := 0) rfl
 obtain ⟨f5, g5, t5, o5⟩ := field_at fieldsSpan (i := 1) rfl
 have e4 : ∃ y, zs[0]? = some y := ⟨_, List.getElem?_eq_getElem (by omega)⟩
 have e5 : ∃ y, zs[1]? = some y := ⟨_, List.getElem?_eq_getElem (by omega)⟩
 obtain ⟨y4, e4⟩ := e4
 obtain ⟨y5, e5⟩ := e5
 have k4 := hf2 0 f4 g4
 have k5 := hf2 1 f5 g5
 rw [t4, o4, e4, cellsInt] at k4
 rw [t5, o5, e5, cellsInt] at k5
 obtain ⟨lo, c4, -, w4⟩ := DataW.trod_int Tryz.underlying3 k4
 obtain ⟨hi, c5, -, w5⟩ := DataW.trod_int Tryz.underlying3 k5
 have d0 := one_of c0
 have d1 := one_of c1
 have d4 : cs[2]? = some (.int .i64 lo) := by
  have := one_of c4
  simpa [List.getElem?_take, List.getElem?_drop] using this
 have d5 : cs[3]? = some (.int .i64 hi) := by
  have := one_of c5
  simpa [List.getElem?_take, List.getElem?_drop] using this
 rcases open_ints Tryz.underlying29 Tryz.underlying3 cellsInt k3 with ⟨hcs, -⟩ | ⟨a, len, cap, us, hcs, -, hl, hm, hz, -, hcell, hwf⟩
 ·have d3 := one_of hcs
  exact ⟨⟨kd, nm, lo, hi, []⟩, none, 0, d0, d1, d4, d5, d3, wf_i64 w0, wf_i64 w4, wf_i64 w5, w1, Rd.nil _ _ _, Nat.le_refl _, by decide⟩
 ·have d3 := one_of hcs
  obtain ⟨hr, hl', hm'⟩ := rd_of (k := .i64) (w := w) (A := some a) (zs := us) (len := len) (cap := cap) (Or.inr ⟨a, rfl, hl, hm, by simpa using hz, hcell, hwf⟩)
  have hlen3 : (us.take len).length = len := by rw [List.length_take]; have : us.length = cap := by simpa using hz
                                                omega
  refine ⟨⟨kd, nm, lo, hi, us.take len⟩, some a, cap, d0, d1, d4, d5, ?_, wf_i64 w0, wf_i64 w4, wf_i64 w5, w1, ?_, ?_, hm⟩
  ·simp only [hlen3]; exact d3
  ·simp only [hlen3]; exact hr
  ·simp only [hlen3]; exact hl
theorem node_of {fuel : Nat} {cs : List Value} {x : DataW H × List MemPlace} {b o : Nat} (h : DataW.trod enc Tryz.prog w 0 (fun _ => true) true fuel 47 cs = some x)
  (hc : ∀ j, j < 5 → w.cell? ⟨b, o + j, none⟩ = cs[j]?) : ∃ n, NodeAt Any w b o n := by
 obtain ⟨n, K, c, d0, d1, d2, d3, d4, h5, h6, h7, h8, h9, h10, h11⟩ := node_vals h
 exact ⟨n, (hc 0 (by omega)).trans d0, (hc 1 (by omega)).trans d1, (hc 2 (by omega)).trans d2, (hc 3 (by omega)).trans d3, h5, h6, h7, h8, K, c, (hc 4 (by omega)).trans d4, h9, h10, h11, trivial, fun _ _ _ => trivial⟩
def NodeOk (w : World) (n : Nd) (K : Option Addr) (c : Nat) : Prop :=
 small64 n.kind ∧ small64 n.lo ∧ small64 n.hi ∧ n.name.size ≤ maxLen ∧ Rd .i64 w K n.kids.length n.kids ∧ n.kids.length ≤ c ∧ c ≤ maxLen
set_option maxRecDepth 100000 in
theorem nodes_of {len cap : Nat} {A : Option Addr} {d : DataW H} {p : List MemPlace} (h : DataW.Trod enc Tryz.prog w 0 (fun _ => true) true 26 (.slice A len cap) d p) :
  ∃ l : List Nd, l.length = len ∧ Nodes Any w A l ∧ len ≤ cap ∧ cap ≤ maxLen := by
 obtain ⟨fuel, hf⟩ := h
 rcases open_slice Tryz.underlying26 hf with ⟨hcs, -⟩ | ⟨a, l', c', m, n, D, Pl, hcs, -, hl, hm, hmm, -, hi⟩
 ·simp [Value.cells] at hcs
  obtain ⟨rfl, rfl, rfl⟩ := hcs
  exact ⟨[], rfl, fun h0 => by simp at h0, Nat.le_refl _, by decide⟩
 ·simp [Value.cells] at hcs
  obtain ⟨rfl, rfl, rfl⟩ := hcs
  have hm' : m = cap := by simpa using hmm
  have hone : ∀ i, i < len → ∃ nd, ∃ b off, a = ⟨b, off, none⟩ ∧ NodeAt Any w b (off + 5 * i) nd := fun i hi' => by
   obtain ⟨cs', hc, ht⟩ := hi i (by omega)
   rw [cellsNode] at hc
   obtain ⟨-, hcl, hat⟩ := World.cells?_some hc
   obtain ⟨b, off, spot⟩ := a
   obtain ⟨cs0, hc0, -⟩ := hi 0 (by omega)
   rw [cellsNode] at hc0
   obtain ⟨-, hcl0, hat0⟩ := World.cells?_some hc0
   have h0 := hat0 0 (by omega)
   have hv : cs0[0]? = some (cs0[0]'(by omega)) := List.getElem?_eq_getElem (by omega)
   rw [hv, add_add] at h0
   have hspot : spot = none := by simpa [Addr.add] using World.cell?_spot h0
   subst hspot
   obtain ⟨nd, hn⟩ := node_of (b := b) (o := off + 5 * i) ht (fun j hj => by
    rw [← hat j (by omega), add_add]
    congr 1
    unfold Addr.add
    split <;> simp_all <;> omega)
   exact ⟨nd, b, off, rfl, hn⟩
  refine ⟨(List.range len).map fun i => if h : i < len then Classical.choose (hone i h) else ⟨0, ⟨#[]⟩, 0, 0, []⟩, by simp, fun h0 => ?_, hl, hm⟩
  simp only [List.length_map, List.length_range] at h0
  obtain ⟨-, b, off, rfl, -⟩ := hone 0 h0
  refine ⟨b, off, rfl, fun j n hn => ?_⟩
  have hj : j < len := by
   have := (List.getElem?_eq_some_iff.1 hn).1
   simpa using this
  simp only [List.getElem?_map, List.getElem?_range hj, Option.map_some, Option.some.injEq, dif_pos hj] at hn
  subst hn
  obtain ⟨b', off', e, hn⟩ := Classical.choose_spec (hone j hj)
  injection e with e1 e2
  subst e1; subst e2
  exact hn
end
end Go.Proofs.YtdbgaccnejffpaaGreat.Tree
/- Spans compared by value; a slice from a place on. By an AI agent. -/
namespace Go.Proofs.YtdbgaccnejffpaaGreat.Tree
open Go.RowKit Go.Proofs.YtdbgaccnejffpaaGreat.Ints
theorem fieldsSpan3 : (Tryz.prog.fieldsOf 45).toList.map (fun f => (f.name, f.type, f.offset)) = [("Lo", 3, 0), ("Hi", 3, 1)] := by kernel_rfl
theorem stoodSpan : Tryz.prog.stoodInHeld 45 = false := by kernel_rfl
theorem guardSpan : Tryz.prog.eqGuardType Tryz.prog.depth 45 = false := by kernel_rfl
theorem part_int {P : Program} (w : World) (t : TypeId) (cs : Array Value) (o : Nat) (v : Value) {k : IntKind} (ht : P.underlying t = some (.int k)) (hv : cs[o]? = some v) : (part t cs o).run P w = .ok v w := by
 simp [part, isAgg, run_underlying ht, hv]
set_option maxRecDepth 100000 in
theorem span_equal (a b c d : Int) (w : World) : (Op.equalIn 10000 45 (.agg #[.int .i64 a, .int .i64 b]) (.agg #[.int .i64 c, .int .i64 d])).run Tryz.prog w = .ok (decide (a = c ∧ b = d)) w := by
 rw [run_equalIn_struct w _ _ _ _ structSpan stoodSpan]
 generalize hfs : (Tryz.prog.fieldsOf 45).toList = fs
 have h := fieldsSpan3
 rw [hfs] at h
 match fs, h with
 | [f0, f1], h =>
  simp only [List.map_cons, List.map_nil, List.cons.injEq, Prod.mk.injEq, and_true] at h
  obtain ⟨⟨n0, t0, o0⟩, n1, t1, o1⟩ := h
  have q0 : ∀ (W : World) (x y : Value), (part 3 #[x, y] 0).run Tryz.prog W = .ok x W := fun W x y => part_int W _ _ 0 x Tryz.underlying3 rfl
  have q1 : ∀ (W : World) (x y : Value), (part 3 #[x, y] 1).run Tryz.prog W = .ok y W := fun W x y => part_int W _ _ 1 y Tryz.underlying3 rfl
  have e0 : ∀ (W : World) (x y : Int), (Op.equalIn 9999 3 (.int .i64 x) (.int .i64 y)).run Tryz.prog W = .ok (x == y) W := fun W x y => run_equalIn_int W 9998 _ .i64 .i64 x y Tryz.underlying3
  have hk : ∀ x y : Int, (x == y) = decide (x = y) := fun x y => by
   rw [Bool.eq_iff_iff, beq_iff_eq, decide_eq_true_iff]
  have hfin : decide (a = c ∧ b = d) = (decide (a = c) && decide (b = d)) := Bool.decide_and _ _
  rw [hfin]
  simp only [Op.eqFields, n0, t0, o0, n1, t1, o1, q0, q1, e0, hk, Sem.run_bind, Result.andThen_ok, ne_eq, String.reduceEq, not_false_eq_true, if_true, Sem.run_ite, Sem.run_pure]
  generalize decide (a = c) = b0
  generalize decide (b = d) = b1
  cases b0 <;> cases b1 <;> rfl
set_option maxRecDepth 100000 in
theorem span_neq (a b c d : Int) (w : World) : (binOp .neq 45 (.agg #[.int .i64 a, .int .i64 b]) (.agg #[.int .i64 c, .int .i64 d])).run Tryz.prog w = .ok (.bool (!(decide (a = c ∧ b = d)))) w := by
 rw [run_neq_struct, span_equal]
 rfl
set_option maxRecDepth 100000 in
theorem span_eql (a b c d : Int) (w : World) : (binOp .eql 45 (.agg #[.int .i64 a, .int .i64 b]) (.agg #[.int .i64 c, .int .i64 d])).run Tryz.prog w = .ok (.bool (decide (a = c ∧ b = d))) w := by
 rw [run_eql_struct, span_equal]
 rfl
def fromAddr (A : Option Addr) (cap k size : Nat) : Option Addr := if cap = k then A else A.map (·.add (k * size))
set_option maxRecDepth 100000 in
theorem slice_from {P : Program} (t : TypeId) (ht : P.underlying t = some (.slice (P.elem t))) (size : Nat) (hs : (P.info? (P.elem t)).map (·.size) = some size) (A : Option Addr) (n cap k : Nat) (hk : k ≤ n) (W : World) :
  (Instr.slice t (.slice A n cap) (some (.int .i64 (k : Int))) none none).run P W = .ok (.slice (fromAddr A cap k size) (n - k) (cap - k)) W := by
 rw [run_slice_l W t A n cap ht .i64 (k : Int) (by omega) (by omega)]
 obtain ⟨i, hi, hz⟩ := Option.map_eq_some_iff.1 hs
 simp [sizeOf, typeInfo, hi, hz, Result.andThen, sliced, fromAddr]
theorem Rd.from {k : IntKind} {w : World} {A : Option Addr} {n cap j : Nat} {zs : List Int} (h : Rd k w A n zs) (hn : n ≤ cap) (hj : j ≤ n) : Rd k w (fromAddr A cap j 1) (n - j) (zs.drop j) := by
 unfold fromAddr
 by_cases hc : cap = j
 ·rw [if_pos hc]
  have e : n - j = 0 := by omega
  have e2 : zs.drop j = [] := List.drop_eq_nil_of_le (by rw [h.len]; omega)
  rw [e, e2]
  exact Rd.nil _ _ _
 ·rw [if_neg hc, Nat.mul_one]
  by_cases h0 : n = 0
  ·have e : n - j = 0 := by omega
   have e2 : zs.drop j = [] := List.drop_eq_nil_of_le (by rw [h.len]; omega)
   rw [e, e2]
   exact Rd.nil _ _ _
  ·obtain ⟨b, off, rfl, -⟩ := h.cell (by omega)
   have := h.drop hj
   have e : (⟨b, off, none⟩ : Addr).add j = ⟨b, off + j, none⟩ := by unfold Addr.add; split <;> simp_all
   rw [Option.map_some, e]
   exact this
theorem fcell {W w1 : World} (hb : Below W.heap.size W w1) : (∀ b o, b < W.heap.size → w1.cell? ⟨b, o, none⟩ = W.cell? ⟨b, o, none⟩) ∧ (∀ b o, b < W.heap.size → w1.frozen? ⟨b, o, none⟩ = W.frozen? ⟨b, o, none⟩) :=
 ⟨fun b o h => hb.cell (p := ⟨b, o, none⟩) h, fun b o h => hb.frozen (p := ⟨b, o, none⟩) h⟩
theorem below_cell {w w' : World} {b o : Nat} {u : Value} (hb : Below w.heap.size w w') (h : w.cell? ⟨b, o, none⟩ = some u) : w'.cell? ⟨b, o, none⟩ = some u :=
 (hb.cell (World.block_lt_of_cell? w _ h)).trans h
theorem box_cell {w : World} {cs : Array Value} {T : TypeId} (o : Nat) (u : Value) (h : cs[o]? = some u) : (w.alloc (.cells cs T)).cell? ⟨w.heap.size, o, none⟩ = some u := by
 rw [cell_of_row _ w.heap.size o _ T (0, 0) (heap_alloc_new w _)]
 exact h
theorem below_row {w w' : World} {base : Nat} {e : TypeId} {size : Nat} {v : Value} {n : Nat} {xs : List Value} (h : w.ownsRow base e size v n xs) (hb : Below w.heap.size w w') : w'.ownsRow base e size v n xs :=
 h.kept (row := none) ⟨hb.os, hb.tape, hb.output, hb.size, fun i hi _ => hb.block i hi⟩ (by cases v.ownBlock <;> simp)
theorem below_drewN {B : Nat} {a w : World} (h : Below B a w) (n : Nat) : Below B a (w.drewN n) := ⟨h.os, h.tape, h.output, h.size, h.block⟩
end Go.Proofs.YtdbgaccnejffpaaGreat.Tree

namespace Go.Proofs.YtdbgaccnejffpaaGreat.Tree
open Go.RowKit Go.Proofs.YtdbgaccnejffpaaGreat.Ints
abbrev SNd := Nd × Option Addr × Nat
def cellsS (s : SNd) : List Value := [.int .i64 s.1.kind, .string s.1.name, .int .i64 s.1.lo, .int .i64 s.1.hi, .slice s.2.1 s.1.kids.length s.2.2]
def rowS (l : List SNd) : List Value := l.flatMap cellsS
def KidOk (S : Nat → Prop) (w : World) (s : SNd) : Prop := NodeOk w s.1 s.2.1 s.2.2 ∧ ∀ a, s.2.1 = some a → 0 < s.1.kids.length → S a.block
theorem KidOk.keep {S : Nat → Prop} {w w' : World} {s : SNd} (h : KidOk S w s) (hk : ∀ p u, S p.block → w.cell? p = some u → w'.cell? p = some u) : KidOk S w' s := by
 obtain ⟨⟨h5, h6, h7, h8, h10, h11, h12⟩, h14⟩ := h
 refine ⟨⟨h5, h6, h7, h8, ⟨h10.1, h10.2.1, fun h0 => ?_⟩, h11, h12⟩, h14⟩
 obtain ⟨b', off, e, hc⟩ := h10.2.2 h0
 exact ⟨b', off, e, fun j hj => hk ⟨b', off + j, none⟩ _ (h14 ⟨b', off, none⟩ e h0) (hc j hj)⟩
theorem KidOk.mono {S S' : Nat → Prop} {w : World} {s : SNd} (h : KidOk S w s) (hs : ∀ b, b < w.heap.size → S b → S' b) : KidOk S' w s := by
 obtain ⟨⟨h5, h6, h7, h8, h10, h11, h12⟩, h14⟩ := h
 refine ⟨⟨h5, h6, h7, h8, h10, h11, h12⟩, fun a e h0 => ?_⟩
 obtain ⟨b', off, e', hc⟩ := h10.2.2 h0
 rw [e] at e'
 injection e' with e'
 subst e'
 exact hs _ (World.block_lt_of_cell? w _ (hc 0 h0)) (h14 _ e h0)
theorem KidOk.below {S : Nat → Prop} {w w' : World} {s : SNd} (h : KidOk S w s) (hb : Below w.heap.size w w') : KidOk S w' s :=
 h.keep fun p _ _ hp => (hb.cell (World.block_lt_of_cell? w p hp)).trans hp
theorem rowS_append (l m : List SNd) : rowS (l ++ m) = rowS l ++ rowS m := List.flatMap_append
theorem rowS_at : ∀ (l : List SNd) (j : Nat) (t : SNd), l[j]? = some t → ∀ f, f < 5 → (rowS l)[5 * j + f]? = (cellsS t)[f]?
 | [], j, t, h, _, _ => by simp at h
 | x :: l, 0, t, h, f, hf => by
  simp only [List.getElem?_cons_zero, Option.some.injEq] at h
  subst h
  show (cellsS x ++ rowS l)[5 * 0 + f]? = _
  rw [Nat.mul_zero, Nat.zero_add, List.getElem?_append_left (by exact hf)]
 | x :: l, j + 1, t, h, f, hf => by
  have ih := rowS_at l j t (by simpa using h) f hf
  show (cellsS x ++ rowS l)[5 * (j + 1) + f]? = _
  rw [List.getElem?_append_right (by show 5 ≤ _; omega), ← ih]
  congr 1
  show 5 * (j + 1) + f - 5 = _
  omega
theorem cellsS_one (t : SNd) : ∀ u ∈ cellsS t, u.oneCell' = true := by
 intro u hu
 simp only [cellsS, List.mem_cons, List.not_mem_nil, or_false] at hu
 rcases hu with rfl | rfl | rfl | rfl | rfl <;> rfl
def OwnNodes (S : Nat → Prop) (w : World) (base : Nat) (v : Value) (l : List SNd) : Prop :=
 w.ownsRow base 47 5 v l.length (rowS l) ∧ ∀ s ∈ l, KidOk (fun b => S b ∧ some b ≠ v.ownBlock) w s
theorem OwnNodes.nil (S : Nat → Prop) (w : World) (base : Nat) : OwnNodes S w base (.slice none 0 0) [] := ⟨World.ownsRow_nil _ _ _ _, fun s hs => by simp at hs⟩
theorem OwnNodes.below {S : Nat → Prop} {w w' : World} {base : Nat} {v : Value} {l : List SNd} (h : OwnNodes S w base v l) (hb : Below w.heap.size w w') : OwnNodes S w' base v l :=
 ⟨below_row h.1 hb, fun s hs => (h.2 s hs).below hb⟩
theorem OwnNodes.reads {S : Nat → Prop} {w : World} {base : Nat} {v : Value} {l : List SNd} (h : OwnNodes S w base v l) (hS : ∀ b, base ≤ b → b < w.heap.size → S b) :
  ∃ A c, v = .slice A l.length c ∧ Nodes S w A (l.map (·.1)) ∧ l.length ≤ c ∧ c ≤ maxLen := by
 obtain ⟨h1, h2⟩ := h
 have hlt := h1.lt
 have h1' := h1
 rcases h1.2 with ⟨rfl, h0⟩ | ⟨g, cap, cur, rfl, _, _, h3, h4, _⟩
 ·exact ⟨none, 0, by rw [h0], fun hp => by simp at hp; omega, by omega, by decide⟩
 ·refine ⟨_, cap, rfl, fun _ => ⟨g, 0, rfl, fun j n hj => ?_⟩, h3, h4⟩
  rw [List.getElem?_map] at hj
  obtain ⟨s, hs, rfl⟩ := Option.map_eq_some_iff.1 hj
  have hjl : j < l.length := (List.getElem?_eq_some_iff.1 hs).1
  have key : ∀ f, f < 5 → w.cell? ⟨g, 0 + 5 * j + f, none⟩ = (cellsS s)[f]? := fun f hf => by
   rw [Nat.zero_add, h1'.cellAt (5 * j + f) (by omega)]
   exact rowS_at l j s hs f hf
  obtain ⟨⟨k5, k6, k7, k8, k10, k11, k12⟩, k14⟩ := h2 s (List.mem_of_getElem? hs)
  have hg := hlt g rfl
  exact ⟨key 0 (by omega), key 1 (by omega), key 2 (by omega), key 3 (by omega), k5, k6, k7, k8, s.2.1, s.2.2, key 4 (by omega), k10, k11, k12, hS _ hg.1 hg.2, fun a e h0 => (k14 a e h0).1⟩
theorem infoNode : (Tryz.prog.info? 47).map (fun i => (i.zero, i.size, i.bytes)) = some (some (.agg #[.int .i64 0, .string { data := #[] }, .int .i64 0, .int .i64 0, .slice none 0 0]), 5, 64) := by kernel_rfl
theorem own_grown {S : Nat → Prop} {w1 w' : World} {base : Nat} {v v' : Value} {σ τ : List SNd} (h2 : ∀ s ∈ σ, KidOk (fun b => S b ∧ some b ≠ v.ownBlock) w1 s) (k2 : ∀ s ∈ τ, KidOk (fun b => S b ∧ some b ≠ v.ownBlock) w1 s)
  (hr : w'.ownsRow base 47 5 v' (σ ++ τ).length (rowS (σ ++ τ))) (hg : w1.grownBy w' v.ownBlock) (hat : v'.ownBlock = v.ownBlock ∨ v'.ownBlock = some w1.heap.size) : OwnNodes S w' base v' (σ ++ τ) := by
 refine ⟨hr, fun s hs => ?_⟩
 have h3 : KidOk (fun b => S b ∧ some b ≠ v.ownBlock) w1 s := (List.mem_append.1 hs).elim (h2 s) (k2 s)
 have h4 := (h3.mono (S' := fun b => (S b ∧ some b ≠ v.ownBlock) ∧ b < w1.heap.size) fun b hb hp => ⟨hp, hb⟩).keep (w' := w') fun _ _ hp hc => hg.cell hc hp.1.2
 exact h4.mono fun b _ hp => ⟨hp.1.1, by
  rcases hat with e | e
  ·rw [e]; exact hp.1.2
  ·rw [e]; intro e2; injection e2 with e2; omega⟩
section
variable {P : Program} {w : World}
theorem wpList_append_nd {ops : Array Oper} {rest : List Oper} {o : Oper} {a : Act} {Q : Exit → Act → World → Prop} (hgd : o.guard = none) (s x : Operand) (t : TypeId)
  (ho : o.op = .call { callee := .builtin .append, args := #[s, x], argTypes := #[t, t] }) (base : Nat) (i : TypeInfo) (z : Value)
  (ht : P.underlying t = some (.slice 47)) (hi : P.info? 47 = some i) (hz : i.zero = some z) (hsize : i.size = 5) (hby : i.bytes = 64) (hzs : z.cells.size = 5)
  (v : Value) (l : List SNd) (hs : a.eval s = v) (S : Nat → Prop) (hown : OwnNodes S w base v l)
  (sn : SNd) (hk : KidOk (fun b => S b ∧ some b ≠ v.ownBlock) w sn) (T : TypeId) (cs : Array Value) (hcs : cs = (cellsS sn).toArray) (H : Nat) (hH : w.heap.size = H) (hx : a.eval x = .slice (some ⟨H, 0, none⟩) 1 1)
  (hl : l.length ≤ 4194304) (hbase : base ≤ w.heap.size)
  (h : ∀ v' w', OwnNodes S w' base v' (l ++ [sn]) → (w.alloc (.cells cs T)).grownBy w' v.ownBlock → (v'.ownBlock = v.ownBlock ∨ v'.ownBlock = some (w.alloc (.cells cs T)).heap.size) → wpList P ops Q rest (a.put o.dst v') w') : wpList P ops Q (o :: rest) a (w.alloc (.cells cs T)) := by
 subst hcs
 subst hH
 refine wpList_plain hgd fun K hK => ?_
 obtain ⟨v', w', hrun, h1, h2, -, h4⟩ := run_append_own_at (P := P) (w.alloc (.cells (cellsS sn).toArray T)) base t o.type 47 i z 5 64 ht hi hz hsize hby hzs (by decide) v l.length (rowS l) (hown.1.alloc _) ⟨w.heap.size, 0, none⟩ 1 1 (cellsS sn) rfl (fun j u hu => by
   rw [show (⟨w.heap.size, 0, none⟩ : Addr).add j = ⟨w.heap.size, j, none⟩ by unfold Addr.add; split <;> simp_all]
   rw [cell_of_row _ w.heap.size j _ T (0, 0) (heap_alloc_new w _)]
   simpa using hu) (cellsS_one sn) (by have : maxLen = 9223372036854775807 := rfl; omega) (by omega) (by simp; omega)
 unfold Oper.wp
 simp [execOp, ho, resolve, invoke, builtin, hs, hx, hrun, Result.andThen]
 refine hK _ _ (h v' w' (own_grown (w1 := w.alloc (.cells (cellsS sn).toArray T)) (fun s hs => (hown.2 s hs).below ((Below.refl _ _).alloc (Nat.le_refl _) _)) (fun s hs => by rw [List.mem_singleton.1 hs]; exact hk.below ((Below.refl _ _).alloc (Nat.le_refl _) _)) ?_ h2 h4) h2 h4)
 rw [rowS_append, List.length_append]
 have e : rowS [sn] = cellsS sn := by simp [rowS]
 rw [e]
 exact h1
end
end Go.Proofs.YtdbgaccnejffpaaGreat.Tree

namespace Go.Proofs.YtdbgaccnejffpaaGreat.Tree
deriving instance DecidableEq for Nd
theorem le_alloc {a : Nat} {w : World} {o : Obj} (h : a ≤ w.heap.size) : a ≤ (w.alloc o).heap.size := by simp; omega
end Go.Proofs.YtdbgaccnejffpaaGreat.Tree

/- Tokens in plain lists of bytes. By an AI agent. -/
namespace Go.Proofs.YtdbgaccnejffpaaGreat.Lex
def small (c : UInt8) : Bool := decide (97 ≤ c.toNat ∧ c.toNat ≤ 122)
def digit (c : UInt8) : Bool := decide (48 ≤ c.toNat ∧ c.toNat ≤ 57)
def wordB (c : UInt8) : Bool := digit c || small c || decide (c.toNat = 95)
def run (words : Bool) (bs : List UInt8) : Nat := (bs.takeWhile (if words then wordB else digit)).length
theorem small_word {c : UInt8} (h : small c = true) : wordB c = true := by simp [wordB, h]
theorem digit_word {c : UInt8} (h : digit c = true) : wordB c = true := by simp [wordB, h]
def reserved : List (List UInt8) := [[116, 114, 117, 101], [102, 97, 108, 115, 101], [112, 114, 101, 118], [110, 101, 120, 116], [111, 110, 99, 101], [104, 105, 115, 116], [115, 111, 109, 101], [97, 108, 108], [115, 105, 110, 99, 101], [117, 110, 116, 105, 108], [98, 97, 99, 107], [102, 111, 114, 101]]
def nameS (bs : List UInt8) : Bool :=
 match bs with
 | [] => false
 | c :: r => decide (r.length + 1 ≤ 16) && small c && decide (run true (c :: r) = r.length + 1) && !(decide (c :: r ∈ reserved))
end Go.Proofs.YtdbgaccnejffpaaGreat.Lex
/- Tokens in plain lists of bytes: blanks, numbers, the laws' own texts. By an AI agent. -/
namespace Go.Proofs.YtdbgaccnejffpaaGreat.Lex
def table : List (List UInt8 × Nat × List UInt8 × Nat) :=
 [([97], 1, [97], 0), ([98, 50], 1, [98, 50], 0), ([111, 110, 99, 101], 1, [111, 110, 99, 101], 0), ([115, 105, 110, 99, 101], 1, [115, 105, 110, 99, 101], 0), ([102, 111, 114, 101], 1, [102, 111, 114, 101], 0),
  ([48], 2, [], 0), ([55], 2, [], 7), ([57, 57, 57, 57], 2, [], 9999), ([45, 62], 3, [45, 62], 0), ([40], 3, [40], 0), ([41], 3, [41], 0), ([91], 3, [91], 0), ([93], 3, [93], 0), ([123], 3, [123], 0), ([125], 3, [125], 0),
  ([44], 3, [44], 0), ([42], 3, [42], 0), ([46], 3, [46], 0), ([63], 3, [63], 0), ([43], 3, [43], 0), ([59], 3, [59], 0), ([33], 3, [33], 0), ([38], 3, [38], 0), ([124], 3, [124], 0), ([120, 95, 121], 1, [120, 95, 121], 0), ([116, 114, 117, 101], 1, [116, 114, 117, 101], 0)]
def pick (n : Nat) : List UInt8 × Nat × List UInt8 × Nat := table.getD (n % 26) ([97], 1, [97], 0)
end Go.Proofs.YtdbgaccnejffpaaGreat.Lex
/- Tokens in plain lists of bytes: a number as it is written; one word, blanks alone. By an AI agent. -/
namespace Go.Proofs.YtdbgaccnejffpaaGreat.Lex
end Go.Proofs.YtdbgaccnejffpaaGreat.Lex
/- Tokens in plain lists of bytes: what each branch of a walk says of the piece that begins. By an AI agent. -/
namespace Go.Proofs.YtdbgaccnejffpaaGreat.Lex
end Go.Proofs.YtdbgaccnejffpaaGreat.Lex
/- Rows of tokens in memory: append of one; what a walk reads. By an AI agent. -/
namespace Go.Proofs.YtdbgaccnejffpaaGreat.Lex
open Go.RowKit
def bytes (l : List UInt8) : ByteArray := ⟨l.toArray⟩
section
variable {P : Program} {w : World}
end
end Go.Proofs.YtdbgaccnejffpaaGreat.Lex
/- Texts, byte by byte: what the walks share. By an AI agent. -/
namespace Go.Proofs.YtdbgaccnejffpaaGreat.Lex
open Go.RowKit
theorem run_yes {words : Bool} {c : UInt8} {r : List UInt8} (h : (if words then wordB else digit) c = true) : run words (c :: r) = run words r + 1 := by
 unfold run
 rw [List.takeWhile_cons_of_pos h]
 rfl
theorem run_no {words : Bool} {c : UInt8} {r : List UInt8} (h : (if words then wordB else digit) c = false) : run words (c :: r) = 0 := by
 unfold run
 rw [List.takeWhile_cons_of_neg (by rw [h]; decide)]
 rfl
theorem drop_get (s : ByteArray) (q : Nat) (h : q < s.size) : s.data.toList.drop q = s[q] :: s.data.toList.drop (q + 1) := by
 have hl : q < s.data.toList.length := by rw [Array.length_toList]; exact h
 rw [List.drop_eq_getElem_cons hl]
 rfl
theorem drop_end (s : ByteArray) (q : Nat) (h : s.size ≤ q) : s.data.toList.drop q = [] := List.drop_eq_nil_of_le (by rw [Array.length_toList]; exact h)
theorem add64 {p n q : Nat} (h : p + n = q) (hq : q ≤ 9223372036854775807) : IntKind.i64.wrap ((p : Int) + (n : Int)) = (q : Int) ∧ wrap64 ((p : Int) + (n : Int)) = (q : Int) := by
 subst h
 rw [← Int.natCast_add]
 exact ⟨IntWalk.i64_in _ (by omega), IntWalk.wrap64_in _ (by omega)⟩
theorem word_not {c : UInt8} (h1 : digit c = false) (h2 : small c = false) (h3 : (c.toNat : Int) ≠ 95) : wordB c = false := by
 simp only [wordB, h1, h2, Bool.false_or, decide_eq_false_iff_not]
 omega
end Go.Proofs.YtdbgaccnejffpaaGreat.Lex
/- The walks of the reference's small, digit and run. By an AI agent. -/
namespace Go.Proofs.YtdbgaccnejffpaaGreat.Lex
open Go.RowKit
end Go.Proofs.YtdbgaccnejffpaaGreat.Lex
/- The walks of the reference's Reserved and Name. By an AI agent. -/
namespace Go.Proofs.YtdbgaccnejffpaaGreat.Lex
open Go.RowKit
def words13 : List (List UInt8) := reserved ++ [[]]
theorem words_in {L : List UInt8} (hne : L ≠ []) (k : Nat) (hk : k < 13) (h : words13.getD k [] = L) : decide (L ∈ reserved) = true := by
 rw [decide_eq_true_iff]
 have hm : L ∈ words13 := by
  rw [← h, List.getD_eq_getElem?_getD, List.getElem?_eq_getElem (show k < words13.length from hk)]
  exact List.getElem_mem _
 rcases List.mem_append.1 hm with h1 | h1
 ·exact h1
 ·exact absurd (List.mem_singleton.1 h1) hne
theorem words_out {L : List UInt8} (h : ∀ j, j < 13 → words13.getD j [] ≠ L) : decide (L ∈ reserved) = false := by
 rw [decide_eq_false_iff_not]
 intro hm
 obtain ⟨j, hj, he⟩ := List.mem_iff_getElem.1 hm
 have hj' : j < 12 := hj
 refine h j (by omega) ?_
 rw [List.getD_eq_getElem?_getD, words13, List.getElem?_append_left hj, List.getElem?_eq_getElem hj]
 exact he
def arr13 : Array Value := #[.string { data := #[116, 114, 117, 101] }, .string { data := #[102, 97, 108, 115, 101] }, .string { data := #[112, 114, 101, 118] }, .string { data := #[110, 101, 120, 116] }, .string { data := #[111, 110, 99, 101] }, .string { data := #[104, 105, 115, 116] }, .string { data := #[115, 111, 109, 101] }, .string { data := #[97, 108, 108] }, .string { data := #[115, 105, 110, 99, 101] }, .string { data := #[117, 110, 116, 105, 108] }, .string { data := #[98, 97, 99, 107] }, .string { data := #[102, 111, 114, 101] }, .string { data := #[] }]
theorem name_not {L : List UInt8} (h : L.length = 0 ∨ 16 < L.length) : nameS L = false := by
 cases L with
 | nil => rfl
 | cons c r =>
  simp only [List.length_cons] at h
  simp only [nameS]
  rw [decide_eq_false (show ¬ r.length + 1 ≤ 16 by omega)]
  rfl
theorem name_is {c : UInt8} {r : List UInt8} (h : r.length + 1 ≤ 16) : nameS (c :: r) = (small c && decide (run true (c :: r) = r.length + 1) && !(decide (c :: r ∈ reserved))) := by
 simp only [nameS]
 rw [decide_eq_true h, Bool.true_and]
end Go.Proofs.YtdbgaccnejffpaaGreat.Lex
