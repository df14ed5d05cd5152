/-
  A drawn region in which loads stand beside a late store into what they read: S is asked only as long as nothing late has come up. By an AI agent.
  The walk of the reference's product (stage 14). By an AI agent.
  Lists of nodes in memory; what a list of nodes that came in reads as; spans compared by value; a slice from a place on. By an AI agent.
-/
import Derived.Deep.RegionHeld3
import Derived.Test.YtcpmcgbjmncalaaGPathsUnion2
import Derived.Test.YtcpmcgbjmncalaaChecked
import Derived.WalkKit
import Derived.WalkSpells
import Derived.Below
import Derived.Lib.Hide
import Derived.Test.YtcpmcgbjmncalaaGPathsUnion1
import Derived.Deep.Slices
import Derived.Deep.Fields
import Derived.ChangeSame
import Derived.ChangeArms
import Derived.ChangeSlices
import Derived.Laws.StructEq
import Derived.IntWalk
import Derived.Deep.QuietTactic
import Derived.BigQuiet
namespace Go.Proofs.Ytcpmcgbjmncalaa.Late
open Go

section
variable {P : Program} {ops : Array Oper} {Q : Exit → Act → World → Prop} {md : Region.Mode} {S : World → Prop} {late : List Nat}

/-- Whatever order is picked: S holds behind each operation, till a late one comes up; behind that nothing is asked. -/
def wpAnyL (P : Program) (md : Region.Mode) (ops : Array Oper) (Q : Exit → Act → World → Prop) (S : World → Prop) (late : List Nat) : Nat → Array Bool → Act → World → Prop
  | 0, listed, a, w => Region.ready md ops listed = [] ∧ Q .normal a w
  | fuel + 1, listed, a, w =>
    (Region.ready md ops listed = [] → Q .normal a w) ∧
    ∀ i ∈ Region.ready md ops listed, wpOp P ops Q i (fun a' w' => if late.contains i = true then wpAnyH P md ops Q (fun _ => True) fuel (listed.setIfInBounds i true) a' w' else S w' ∧ wpAnyL P md ops Q S late fuel (listed.setIfInBounds i true) a' w') a w

theorem wpAny_of_late : ∀ (fuel : Nat) (listed : Array Bool) (a : Act) (w : World), wpAnyL P md ops Q S late fuel listed a w → wpAny P md ops Q fuel listed a w
  | 0, _, _, _, h => h
  | fuel + 1, _, _, _, h => ⟨h.1, fun i hi => wpOp_mono (fun a' w' h' => by
      by_cases hl : late.contains i = true
      · rw [if_pos hl] at h'
        exact wpAny_of_held fuel _ a' w' h'
      · rw [if_neg hl] at h'
        exact wpAny_of_late fuel _ a' w' h'.2) (h.2 i hi)⟩

/-- Those that wait for number i, whatever the order. -/
def waiters (md : Region.Mode) (ops : Array Oper) (i : Nat) : List Nat :=
  (List.range ops.size).foldl (fun acc j => match ops[j]? with
    | none => acc
    | some o => if o.after.toList.any (fun e => Region.binds md e && (e.on == i || acc.contains e.on)) then j :: acc else acc) []
/-- Each of W waits for i, or for another one of W. -/
def waits (md : Region.Mode) (ops : Array Oper) (i : Nat) (W : List Nat) : Bool :=
  W.all fun j => match ops[j]? with
    | none => false
    | some o => o.after.toList.any fun e => Region.binds md e && (e.on == i || W.contains e.on)
/-- No late one comes up before number i. -/
def lateOk (md : Region.Mode) (ops : Array Oper) (late : List Nat) (listed : Array Bool) (i : Nat) : Bool :=
  waits md ops i (waiters md ops i) && late.all (fun j => (waiters md ops i).contains j) && (waiters md ops i).all fun j => !(listed.getD j false)

theorem getD_two {l : Array Bool} {k : Nat} (h : l.getD k true = false) : l.getD k false = false := by
  rcases Nat.lt_or_ge k l.size with h' | h'
  · simp only [Array.getD_eq_getD_getElem?, Array.getElem?_eq_getElem h', Option.getD_some] at h ⊢
    exact h
  · simp only [Array.getD_eq_getD_getElem?, Array.getElem?_eq_none h', Option.getD_none] at h ⊢
/-- Of those that wait none is ready. -/
theorem not_ready {i : Nat} {W : List Nat} {listed : Array Bool} (hW : waits md ops i W = true) (hi : listed.getD i true = false) (hn : ∀ j ∈ W, listed.getD j false = false) : ∀ j ∈ W, j ∉ Region.ready md ops listed := fun j hj hr => by
  obtain ⟨-, o, ho, hall⟩ := mem_ready.1 hr
  have h1 := List.all_eq_true.1 hW j hj
  rw [ho] at h1
  obtain ⟨e, he, h1⟩ := List.any_eq_true.1 h1
  simp only [Bool.and_eq_true, Bool.or_eq_true, beq_iff_eq] at h1
  obtain ⟨hb, h2⟩ := h1
  have h3 := hall e (Array.mem_toList_iff.1 he) hb
  rcases h2 with rfl | h2
  · rw [getD_two hi] at h3
    cases h3
  · rw [hn _ (List.contains_iff_mem.1 h2)] at h3
    cases h3

theorem first {i : Nat} {oi : Oper} {v : Value} {W : List Nat} (hi : ops[i]? = some oi) (hsel : ∀ (j : Nat) (o : Oper) cs b, ops[j]? = some o → o.op ≠ .select cs b)
    (hQ : ∀ c a w, Q (.panic c) (a.put oi.dst v) w → Q (.panic c) a w) (hW : waits md ops i W = true) (hL : ∀ j ∈ late, j ∈ W) :
    ∀ (fuel : Nat) (listed : Array Bool) (a : Act) (w : World),
      (∀ j oj, ops[j]? = some oj → j ≠ i → listed.getD j true = false → (∀ e ∈ oj.after, Region.binds md e = true → e.on ≠ i) → oi.apart ops oj = true) →
      i ∈ Region.ready md ops listed → (∀ j ∈ W, listed.getD j false = false) → YieldsIf P ops S oi v a → S w →
      wpAnyL P md ops Q S late fuel (listed.setIfInBounds i true) (a.put oi.dst v) w → wpAnyL P md ops Q S late (fuel + 1) listed a w := by
  intro fuel
  have hown : ∀ (fuel : Nat) (listed : Array Bool) (a : Act) (w : World), i ∈ Region.ready md ops listed → (∀ j ∈ W, listed.getD j false = false) → YieldsIf P ops S oi v a → S w → wpAnyL P md ops Q S late fuel (listed.setIfInBounds i true) (a.put oi.dst v) w →
      wpOp P ops Q i (fun a' w' => if late.contains i = true then wpAnyH P md ops Q (fun _ => True) fuel (listed.setIfInBounds i true) a' w' else S w' ∧ wpAnyL P md ops Q S late fuel (listed.setIfInBounds i true) a' w') a w := fun fuel listed a w hr hn hy hS H => by
    have hnl : ¬ late.contains i = true := fun e => not_ready hW (mem_ready.1 hr).1 hn i (hL i (List.contains_iff_mem.1 e)) hr
    exact hy.wpOp hi hS (by rw [if_neg hnl]; exact ⟨hS, H⟩)
  induction fuel with
  | zero =>
    intro listed a w _ hr hn hy hS H
    refine ⟨fun h => (by rw [h] at hr; cases hr), fun j hj => ?_⟩
    by_cases hji : j = i
    · subst hji; exact hown _ _ _ _ hr hn hy hS H
    · have := ready_mono hj hji
      rw [H.1] at this
      cases this
  | succ fuel ih =>
    intro listed a w hfree hr hn hy hS H
    refine ⟨fun h => (by rw [h] at hr; cases hr), fun j hj => ?_⟩
    by_cases hji : j = i
    · subst hji; exact hown _ _ _ _ hr hn hy hS H
    · have hnw : j ∉ W := fun e => not_ready hW (mem_ready.1 hr).1 hn j e hj
      have hnl : ¬ late.contains j = true := fun e => hnw (hL j (List.contains_iff_mem.1 e))
      have h1 := H.2 j (ready_mono hj hji)
      simp only [if_neg hnl] at h1 ⊢
      obtain ⟨hjun, oj, hoj, hall⟩ := mem_ready.1 hj
      have hnot : ∀ e ∈ oj.after, Region.binds md e = true → e.on ≠ i := fun e he hb heq => by
        have h2 := hall e he hb
        rw [heq, getD_two (mem_ready.1 hr).1] at h2
        cases h2
      have h2 := wpOp_putIf hoj (hfree j oj hoj hji hjun hnot) (fun cs b => hsel i oi cs b hi) (fun cs b => hsel j oj cs b hoj) hQ hy h1
      have hfree' : ∀ k ok, ops[k]? = some ok → k ≠ i → (listed.setIfInBounds j true).getD k true = false →
          (∀ e ∈ ok.after, Region.binds md e = true → e.on ≠ i) → oi.apart ops ok = true := fun k ok hk hki hun hno => by
        refine hfree k ok hk hki ?_ hno
        by_cases hjk : j = k
        · subst hjk; exact hjun
        · rw [getD_set_ne true hjk] at hun; exact hun
      have hn' : ∀ k ∈ W, (listed.setIfInBounds j true).getD k false = false := fun k hk => by
        rw [getD_set_ne false (fun e : j = k => hnw (e ▸ hk))]
        exact hn k hk
      refine wpOp_mono (fun a' w' h3 => ⟨h3.2.1, ih (listed.setIfInBounds j true) a' w' hfree' (ready_mono hr (Ne.symm hji)) hn' h3.1 h3.2.1 ?_⟩) h2
      rw [Array.setIfInBounds_comm _ _ hji]
      exact h3.2.2

/-- Number i may be taken first: it yields v in every world that meets S, and nothing late comes up before it. -/
theorem take {i : Nat} {oi : Oper} {v : Value} {fuel : Nat} {listed : Array Bool} {a : Act} {w : World} (hi : ops[i]? = some oi)
    (hs : Region.noSelect ops = true) (hf : Region.free md ops listed i = true) (hr : (Region.ready md ops listed).contains i = true) (hl : lateOk md ops late listed i = true)
    (hQ : ∀ c a w, Q (.panic c) (a.put oi.dst v) w → Q (.panic c) a w) (hy : YieldsIf P ops S oi v a) (hS : S w)
    (h : wpAnyL P md ops Q S late fuel (listed.setIfInBounds i true) (a.put oi.dst v) w) : wpAnyL P md ops Q S late (fuel + 1) listed a w := by
  unfold lateOk at hl
  simp only [Bool.and_eq_true] at hl
  exact first hi (Region.noSelect_spec hs) hQ hl.1.1 (fun j hj => List.contains_iff_mem.1 (List.all_eq_true.1 hl.1.2 j hj)) fuel listed a w (Region.free_spec hi hf) (by simpa using hr)
    (fun j hj => by have := List.all_eq_true.1 hl.2 j hj; simpa using this) hy hS h
/-- One that is not late comes up alone. -/
theorem early {k : Nat} {o : Oper} {fuel : Nat} {listed : Array Bool} {a : Act} {w : World} (hr : Region.ready md ops listed = [k]) (hl : late.contains k = false) (ho : ops[k]? = some o)
    (h : ∀ K' : Act → World → Prop, Shut (∀ a w, S w → (S w → wpAnyL P md ops Q S late fuel (listed.setIfInBounds k true) a w) → K' a w) → if Region.wanted o (yielded ops a.tmps) = true then Oper.wp P o a w K' Q else K' (a.put o.dst undef) w) :
    wpAnyL P md ops Q S late (fuel + 1) listed a w := by
  refine ⟨fun h0 => (by rw [hr] at h0; cases h0), fun j hj => ?_⟩
  rw [hr, List.mem_singleton] at hj
  subst hj
  simp only [hl, Bool.false_eq_true, if_false]
  exact wpOp_step ho fun K' hK => h K' fun a w hS hW => hK a w ⟨hS, hW hS⟩
/-- A late one comes up alone: from here on nothing is asked. -/
theorem last {k : Nat} {o : Oper} {fuel : Nat} {listed : Array Bool} {a : Act} {w : World} (hr : Region.ready md ops listed = [k]) (hl : late.contains k = true) (ho : ops[k]? = some o)
    (h : ∀ K' : Act → World → Prop, Shut (∀ a w, True → (True → wpAnyH P md ops Q (fun _ => True) fuel (listed.setIfInBounds k true) a w) → K' a w) → if Region.wanted o (yielded ops a.tmps) = true then Oper.wp P o a w K' Q else K' (a.put o.dst undef) w) :
    wpAnyL P md ops Q S late (fuel + 1) listed a w := by
  refine ⟨fun h0 => (by rw [hr] at h0; cases h0), fun j hj => ?_⟩
  rw [hr, List.mem_singleton] at hj
  subst hj
  simp only [hl, if_true]
  exact wpOp_step ho fun K' hK => h K' fun a w _ hW => hK a w (hW trivial)
/-- The beginning. -/
theorem drew {id : Nat} {a : Act} {w : World} (late : List Nat) (hm : P.follows .mixedOrders = true) (hS : S w.drew)
    (h : S w.drew → wpAnyL P .any ops Q S late ops.size (Array.replicate ops.size false) a w.drew) : (Code.region id ops true).wp P Q a w :=
  wp_region_any hm (wpAny_of_late _ _ _ _ (h hS))
end
end Go.Proofs.Ytcpmcgbjmncalaa.Late

namespace Go.Proofs.Ytcpmcgbjmncalaa.Paths
open Go.RowKit Go.Proofs.Ytcpmcgbjmncalaa.Ints Go.Proofs.Ytcpmcgbjmncalaa.Mem Go.Proofs.Ytcpmcgbjmncalaa.Src

/-- A slice that reads as a table. -/
def RdT (w : World) (A : Option Addr) (n : Nat) (m : Tb) : Prop := 0 < n → ∃ b off, A = some ⟨b, off, none⟩ ∧ ∀ i, i < n → ∃ K o c, w.cell? ⟨b, off + i, none⟩ = some (.slice (some ⟨K, o, none⟩) n c) ∧ n ≤ c ∧ c ≤ maxLen ∧ ∀ j, j < n → w.cell? ⟨K, o + j, none⟩ = some (.bool (m i j))
theorem RdT.below {w w' : World} {A : Option Addr} {n : Nat} {m : Tb} (h : RdT w A n m) (hb : Below w.heap.size w w') : RdT w' A n m := fun h0 => by
  obtain ⟨b, off, h1, h2⟩ := h h0
  refine ⟨b, off, h1, fun i hi => ?_⟩
  obtain ⟨K, o, c, h3, h4, h5, h6⟩ := h2 i hi
  exact ⟨K, o, c, below_cell hb h3, h4, h5, fun j hj => below_cell hb (h6 j hj)⟩
theorem Tab.reads {w : World} {lo B : Nat} {R : Nat → Nat} {n : Nat} {m : Tb} (h : Tab w lo B R n m) (hn : n ≤ maxLen) : RdT w (some ⟨B, 0, none⟩) n m := fun _ =>
  ⟨B, 0, rfl, fun i hi => ⟨R i, 0, n, by rw [Nat.zero_add]; exact h.outer hi, Nat.le_refl _, hn, fun j hj => by rw [Nat.zero_add]; exact h.inner hi hj⟩⟩
end Go.Proofs.Ytcpmcgbjmncalaa.Paths

/- Lists of nodes in memory; what a list of nodes that came in reads as. By an AI agent. -/
namespace Go.Proofs.Ytcpmcgbjmncalaa.Tree
open Go.RowKit Go.ChangeShapes Go.WideShapes Go.Deep Go.Proofs.Ytcpmcgbjmncalaa.Ints

/-- A node. -/
structure Nd where
  kind : Int
  name : ByteArray
  lo : Int
  hi : Int
  kids : List Int

def small64 (x : Int) : Prop := -9223372036854775808 ≤ x ∧ x ≤ 9223372036854775807
/-- Any block. -/
def Any : Nat → Prop := fun _ => True
/-- The five cells of a node, in blocks of S. -/
def NodeAt (S : Nat → Prop) (w : World) (b o : Nat) (n : Nd) : Prop :=
  w.cell? ⟨b, o, none⟩ = some (.int .i64 n.kind) ∧ w.cell? ⟨b, o + 1, none⟩ = some (.string n.name) ∧ w.cell? ⟨b, o + 2, none⟩ = some (.int .i64 n.lo) ∧ w.cell? ⟨b, o + 3, none⟩ = some (.int .i64 n.hi) ∧
    small64 n.kind ∧ small64 n.lo ∧ small64 n.hi ∧ n.name.size ≤ maxLen ∧
    ∃ (K : Option Addr) (c : Nat), w.cell? ⟨b, o + 4, none⟩ = some (.slice K n.kids.length c) ∧ Rd .i64 w K n.kids.length n.kids ∧ n.kids.length ≤ c ∧ c ≤ maxLen ∧ S b ∧ (∀ a, K = some a → 0 < n.kids.length → S a.block)
theorem NodeAt.keep {S : Nat → Prop} {w w' : World} {b o : Nat} {n : Nd} (h : NodeAt S w b o n) (hk : ∀ p u, S p.block → w.cell? p = some u → w'.cell? p = some u) : NodeAt S w' b o n := by
  obtain ⟨h1, h2, h3, h4, h5, h6, h7, h8, K, c, h9, h10, h11, h12, h13, h14⟩ := h
  refine ⟨hk _ _ h13 h1, hk _ _ h13 h2, hk _ _ h13 h3, hk _ _ h13 h4, h5, h6, h7, h8, K, c, hk _ _ h13 h9, ⟨h10.1, h10.2.1, fun h0 => ?_⟩, h11, h12, h13, h14⟩
  obtain ⟨b', off, e, hc⟩ := h10.2.2 h0
  exact ⟨b', off, e, fun j hj => hk ⟨b', off + j, none⟩ _ (h14 ⟨b', off, none⟩ e h0) (hc j hj)⟩
theorem NodeAt.mono {S S' : Nat → Prop} {w : World} {b o : Nat} {n : Nd} (h : NodeAt S w b o n) (hs : ∀ b, b < w.heap.size → S b → S' b) : NodeAt S' w b o n := by
  obtain ⟨h1, h2, h3, h4, h5, h6, h7, h8, K, c, h9, h10, h11, h12, h13, h14⟩ := h
  refine ⟨h1, h2, h3, h4, h5, h6, h7, h8, K, c, h9, h10, h11, h12, hs _ (World.block_lt_of_cell? w _ h1) h13, fun a e h0 => ?_⟩
  obtain ⟨b', off, e', hc⟩ := h10.2.2 h0
  subst e
  injection e' with e'
  subst e'
  exact hs _ (World.block_lt_of_cell? w _ (hc 0 h0)) (h14 _ rfl h0)
theorem NodeAt.below {S : Nat → Prop} {w w' : World} {b o : Nat} {n : Nd} (h : NodeAt S w b o n) (hb : Below w.heap.size w w') : NodeAt S w' b o n :=
  h.keep fun p _ _ hp => (hb.cell (World.block_lt_of_cell? w p hp)).trans hp
/-- The slice of address A reads as the nodes l, in blocks of S. -/
def Nodes (S : Nat → Prop) (w : World) (A : Option Addr) (l : List Nd) : Prop :=
  0 < l.length → ∃ b off, A = some ⟨b, off, none⟩ ∧ ∀ (j : Nat) (n : Nd), l[j]? = some n → NodeAt S w b (off + 5 * j) n
theorem Nodes.keep {S : Nat → Prop} {w w' : World} {A : Option Addr} {l : List Nd} (h : Nodes S w A l) (hk : ∀ p u, S p.block → w.cell? p = some u → w'.cell? p = some u) : Nodes S w' A l := fun h0 => by
  obtain ⟨b, off, h1, h2⟩ := h h0
  exact ⟨b, off, h1, fun j n hn => (h2 j n hn).keep hk⟩
theorem Nodes.mono {S S' : Nat → Prop} {w : World} {A : Option Addr} {l : List Nd} (h : Nodes S w A l) (hs : ∀ b, b < w.heap.size → S b → S' b) : Nodes S' w A l := fun h0 => by
  obtain ⟨b, off, h1, h2⟩ := h h0
  exact ⟨b, off, h1, fun j n hn => (h2 j n hn).mono hs⟩
theorem Nodes.any {S : Nat → Prop} {w : World} {A : Option Addr} {l : List Nd} (h : Nodes S w A l) : Nodes Any w A l := h.mono fun _ _ _ => trivial
theorem Nodes.below {S : Nat → Prop} {w w' : World} {A : Option Addr} {l : List Nd} (h : Nodes S w A l) (hb : Below w.heap.size w w') : Nodes S w' A l :=
  h.keep fun p _ _ hp => (hb.cell (World.block_lt_of_cell? w p hp)).trans hp
theorem Nodes.nil (S : Nat → Prop) (w : World) (A : Option Addr) : Nodes S w A [] := fun h => by simp at h

theorem structSpan : Try.prog.underlying 40 = some (.struct (Try.prog.fieldsOf 40)) := by kernel_rfl
section
variable {H : Type} {enc : TypeId × Value → H} {w : World}
/-- What a node's values are good for. -/
def NodeOk (w : World) (n : Nd) (K : Option Addr) (c : Nat) : Prop :=
  small64 n.kind ∧ small64 n.lo ∧ small64 n.hi ∧ n.name.size ≤ maxLen ∧ Rd .i64 w K n.kids.length n.kids ∧ n.kids.length ≤ c ∧ c ≤ maxLen
end
end Go.Proofs.Ytcpmcgbjmncalaa.Tree

/- Spans compared by value; a slice from a place on. By an AI agent. -/
namespace Go.Proofs.Ytcpmcgbjmncalaa.Tree
open Go.RowKit Go.Proofs.Ytcpmcgbjmncalaa.Ints

theorem fieldsSpan3 : (Try.prog.fieldsOf 40).toList.map (fun f => (f.name, f.type, f.offset)) = [("Lo", 3, 0), ("Hi", 3, 1)] := by kernel_rfl
theorem stoodSpan : Try.prog.stoodInHeld 40 = false := by kernel_rfl
theorem guardSpan : Try.prog.eqGuardType Try.prog.depth 40 = false := by kernel_rfl
theorem part_int {P : Program} (w : World) (t : TypeId) (cs : Array Value) (o : Nat) (v : Value) {k : IntKind} (ht : P.underlying t = some (.int k)) (hv : cs[o]? = some v) : (part t cs o).run P w = .ok v w := by
  simp [part, isAgg, run_underlying ht, hv]
set_option maxRecDepth 100000 in
theorem span_equal (a b c d : Int) (w : World) : (Op.equalIn 10000 40 (.agg #[.int .i64 a, .int .i64 b]) (.agg #[.int .i64 c, .int .i64 d])).run Try.prog w = .ok (decide (a = c ∧ b = d)) w := by
  rw [run_equalIn_struct w _ _ _ _ structSpan stoodSpan]
  generalize hfs : (Try.prog.fieldsOf 40).toList = fs
  have h := fieldsSpan3
  rw [hfs] at h
  match fs, h with
  | [f0, f1], h =>
    simp only [List.map_cons, List.map_nil, List.cons.injEq, Prod.mk.injEq, and_true] at h
    obtain ⟨⟨n0, t0, o0⟩, n1, t1, o1⟩ := h
    have q0 : ∀ (W : World) (x y : Value), (part 3 #[x, y] 0).run Try.prog W = .ok x W := fun W x y => part_int W _ _ 0 x Try.underlying3 rfl
    have q1 : ∀ (W : World) (x y : Value), (part 3 #[x, y] 1).run Try.prog W = .ok y W := fun W x y => part_int W _ _ 1 y Try.underlying3 rfl
    have e0 : ∀ (W : World) (x y : Int), (Op.equalIn 9999 3 (.int .i64 x) (.int .i64 y)).run Try.prog W = .ok (x == y) W := fun W x y => run_equalIn_int W 9998 _ .i64 .i64 x y Try.underlying3
    have hk : ∀ x y : Int, (x == y) = decide (x = y) := fun x y => by
      rw [Bool.eq_iff_iff, beq_iff_eq, decide_eq_true_iff]
    have hfin : decide (a = c ∧ b = d) = (decide (a = c) && decide (b = d)) := Bool.decide_and _ _
    rw [hfin]
    simp only [Op.eqFields, n0, t0, o0, n1, t1, o1, q0, q1, e0, hk, Sem.run_bind, Result.andThen_ok, ne_eq, String.reduceEq, not_false_eq_true, if_true, Sem.run_ite, Sem.run_pure]
    generalize decide (a = c) = b0
    generalize decide (b = d) = b1
    cases b0 <;> cases b1 <;> rfl
set_option maxRecDepth 100000 in
theorem span_neq (a b c d : Int) (w : World) : (binOp .neq 40 (.agg #[.int .i64 a, .int .i64 b]) (.agg #[.int .i64 c, .int .i64 d])).run Try.prog w = .ok (.bool (!(decide (a = c ∧ b = d)))) w := by
  rw [run_neq_struct, span_equal]
  rfl
set_option maxRecDepth 100000 in
theorem span_eql (a b c d : Int) (w : World) : (binOp .eql 40 (.agg #[.int .i64 a, .int .i64 b]) (.agg #[.int .i64 c, .int .i64 d])).run Try.prog w = .ok (.bool (decide (a = c ∧ b = d))) w := by
  rw [run_eql_struct, span_equal]
  rfl

/-- Where a part of a slice begins. -/
def fromAddr (A : Option Addr) (cap k size : Nat) : Option Addr := if cap = k then A else A.map (·.add (k * size))
set_option maxRecDepth 100000 in
theorem slice_from {P : Program} (t : TypeId) (ht : P.underlying t = some (.slice (P.elem t))) (size : Nat) (hs : (P.info? (P.elem t)).map (·.size) = some size) (A : Option Addr) (n cap k : Nat) (hk : k ≤ n) (W : World) :
    (Instr.slice t (.slice A n cap) (some (.int .i64 (k : Int))) none none).run P W = .ok (.slice (fromAddr A cap k size) (n - k) (cap - k)) W := by
  rw [run_slice_l W t A n cap ht .i64 (k : Int) (by omega) (by omega)]
  obtain ⟨i, hi, hz⟩ := Option.map_eq_some_iff.1 hs
  simp [sizeOf, typeInfo, hi, hz, Result.andThen, sliced, fromAddr]
theorem Rd.from {k : IntKind} {w : World} {A : Option Addr} {n cap j : Nat} {zs : List Int} (h : Rd k w A n zs) (hn : n ≤ cap) (hj : j ≤ n) : Rd k w (fromAddr A cap j 1) (n - j) (zs.drop j) := by
  unfold fromAddr
  by_cases hc : cap = j
  · rw [if_pos hc]
    have e : n - j = 0 := by omega
    have e2 : zs.drop j = [] := List.drop_eq_nil_of_le (by rw [h.len]; omega)
    rw [e, e2]
    exact Rd.nil _ _ _
  · rw [if_neg hc, Nat.mul_one]
    by_cases h0 : n = 0
    · have e : n - j = 0 := by omega
      have e2 : zs.drop j = [] := List.drop_eq_nil_of_le (by rw [h.len]; omega)
      rw [e, e2]
      exact Rd.nil _ _ _
    · obtain ⟨b, off, rfl, -⟩ := h.cell (by omega)
      have := h.drop hj
      have e : (⟨b, off, none⟩ : Addr).add j = ⟨b, off + j, none⟩ := by unfold Addr.add; split <;> simp_all
      rw [Option.map_some, e]
      exact this
theorem fcell {W w1 : World} (hb : Below W.heap.size W w1) : (∀ b o, b < W.heap.size → w1.cell? ⟨b, o, none⟩ = W.cell? ⟨b, o, none⟩) ∧ (∀ b o, b < W.heap.size → w1.frozen? ⟨b, o, none⟩ = W.frozen? ⟨b, o, none⟩) :=
  ⟨fun b o h => hb.cell (p := ⟨b, o, none⟩) h, fun b o h => hb.frozen (p := ⟨b, o, none⟩) h⟩
/-- The cells of a node that lies in a box: two of them, behind whatever is laid later. -/
theorem below_cell {w w' : World} {b o : Nat} {u : Value} (hb : Below w.heap.size w w') (h : w.cell? ⟨b, o, none⟩ = some u) : w'.cell? ⟨b, o, none⟩ = some u :=
  (hb.cell (World.block_lt_of_cell? w _ h)).trans h
theorem box_cell {w : World} {cs : Array Value} {T : TypeId} (o : Nat) (u : Value) (h : cs[o]? = some u) : (w.alloc (.cells cs T)).cell? ⟨w.heap.size, o, none⟩ = some u := by
  rw [cell_of_row _ w.heap.size o _ T (0, 0) (heap_alloc_new w _)]
  exact h
theorem below_row {w w' : World} {base : Nat} {e : TypeId} {size : Nat} {v : Value} {n : Nat} {xs : List Value} (h : w.ownsRow base e size v n xs) (hb : Below w.heap.size w w') : w'.ownsRow base e size v n xs :=
  h.kept (row := none) ⟨hb.os, hb.tape, hb.output, hb.size, fun i hi _ => hb.block i hi⟩ (by cases v.ownBlock <;> simp)
theorem below_drewN {B : Nat} {a w : World} (h : Below B a w) (n : Nat) : Below B a (w.drewN n) := ⟨h.os, h.tape, h.output, h.size, h.block⟩
end Go.Proofs.Ytcpmcgbjmncalaa.Tree
