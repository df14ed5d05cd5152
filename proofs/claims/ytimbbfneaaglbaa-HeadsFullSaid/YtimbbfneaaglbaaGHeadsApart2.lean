/-
  What walks over memory share, whatever the program: fields of structs that came in, cells behind later blocks, parts of slices, a block cell by cell, strings in rows. By an AI agent.
  Events in memory: an event by value, and its two cells; what an event that came in reads as. By an AI agent.
  Ids as plain lists: which may be. By an AI agent.
  Adler's sum as plain arithmetic over lists of integers: what is said of it without any program. By an AI agent.
-/
import Derived.Test.YtimbbfneaaglbaaChecked
import Derived.WalkKit
import Derived.WalkSpells
import Derived.Below
import Derived.Lib.Hide
import Derived.Test.YtimbbfneaaglbaaGHeadsApart1
import Derived.Deep.Slices
import Derived.Deep.Fields
import Derived.ChangeSame
import Derived.ChangeArms
import Derived.ChangeSlices
import Derived.IntWalk
import Derived.Deep.QuietTactic
import Derived.BigQuiet
import Derived.Maps.AppendAt
import Derived.Laws.AppendOwnNone
namespace Go.Proofs.Ytimbbfneaaglbaa.Mem
open Go.RowKit Go.ChangeShapes Go.WideShapes Go.Deep Go.Proofs.Ytimbbfneaaglbaa.Ints

def small64 (x : Int) : Prop := -9223372036854775808 ≤ x ∧ x ≤ 9223372036854775807
/-- Any block. -/
def Any : Nat → Prop := fun _ => True
theorem cellsInt : Try.prog.cellsOf 3 = 1 := by kernel_rfl
theorem cellsInts : Try.prog.cellsOf 24 = 1 := by kernel_rfl
theorem field_at {fs : Array Field} {l : List (TypeId × Nat)} (h : fs.toList.map (fun f => (f.type, f.offset)) = l) {i : Nat} {t : TypeId} {o : Nat} (hi : l[i]? = some (t, o)) : ∃ f, fs[i]? = some f ∧ f.type = t ∧ f.offset = o := by
  rw [← h, List.getElem?_map] at hi
  obtain ⟨f, hf, he⟩ := Option.map_eq_some_iff.1 hi
  simp only [Prod.mk.injEq] at he
  exact ⟨f, by simpa using hf, he.1, he.2⟩
theorem one_of {cs : List Value} {o : Nat} {v : Value} (h : (cs.drop o).take 1 = [v]) : cs[o]? = some v := by
  have h1 := congrArg (·[0]?) h
  simpa using h1
theorem below_cell {w w' : World} {b o : Nat} {u : Value} (hb : Below w.heap.size w w') (h : w.cell? ⟨b, o, none⟩ = some u) : w'.cell? ⟨b, o, none⟩ = some u :=
  (hb.cell (World.block_lt_of_cell? w _ h)).trans h
theorem box_cell {w : World} {cs : Array Value} {T : TypeId} (o : Nat) (u : Value) (h : cs[o]? = some u) : (w.alloc (.cells cs T)).cell? ⟨w.heap.size, o, none⟩ = some u := by
  rw [cell_of_row _ w.heap.size o _ T (0, 0) (heap_alloc_new w _)]
  exact h
theorem below_row {w w' : World} {base : Nat} {e : TypeId} {size : Nat} {v : Value} {n : Nat} {xs : List Value} (h : w.ownsRow base e size v n xs) (hb : Below w.heap.size w w') : w'.ownsRow base e size v n xs :=
  h.kept (row := none) ⟨hb.os, hb.tape, hb.output, hb.size, fun i hi _ => hb.block i hi⟩ (by cases v.ownBlock <;> simp)
theorem below_drewN {B : Nat} {a w : World} (h : Below B a w) (n : Nat) : Below B a (w.drewN n) := ⟨h.os, h.tape, h.output, h.size, h.block⟩
theorem below_alloc {w w' : World} {o : Obj} (hb : Below (w.alloc o).heap.size (w.alloc o) w') : Below w.heap.size w w' :=
  ((Below.refl w.heap.size w).alloc (Nat.le_refl _) o).trans (hb.mono (by simp))
theorem le_alloc {a : Nat} {w : World} {o : Obj} (h : a ≤ w.heap.size) : a ≤ (w.alloc o).heap.size := by simp; omega
theorem fcell {W w1 : World} (hb : Below W.heap.size W w1) : (∀ b o, b < W.heap.size → w1.cell? ⟨b, o, none⟩ = W.cell? ⟨b, o, none⟩) ∧ (∀ b o, b < W.heap.size → w1.frozen? ⟨b, o, none⟩ = W.frozen? ⟨b, o, none⟩) :=
  ⟨fun b o h => hb.cell (p := ⟨b, o, none⟩) h, fun b o h => hb.frozen (p := ⟨b, o, none⟩) h⟩

/-- Where a part of a slice begins. -/
def fromAddr (A : Option Addr) (cap k size : Nat) : Option Addr := if cap = k then A else A.map (·.add (k * size))
set_option maxRecDepth 100000 in
theorem slice_from {P : Program} (t : TypeId) (ht : P.underlying t = some (.slice (P.elem t))) (size : Nat) (hs : (P.info? (P.elem t)).map (·.size) = some size) (A : Option Addr) (n cap k : Nat) (hk : k ≤ n) (W : World) :
    (Instr.slice t (.slice A n cap) (some (.int .i64 (k : Int))) none none).run P W = .ok (.slice (fromAddr A cap k size) (n - k) (cap - k)) W := by
  rw [run_slice_l W t A n cap ht .i64 (k : Int) (by omega) (by omega)]
  obtain ⟨i, hi, hz⟩ := Option.map_eq_some_iff.1 hs
  simp [sizeOf, typeInfo, hi, hz, Result.andThen, sliced, fromAddr]

set_option maxRecDepth 100000 in
theorem slice_upto {P : Program} (t : TypeId) (ht : P.underlying t = some (.slice (P.elem t))) (size : Nat) (hs : (P.info? (P.elem t)).map (·.size) = some size) (A : Option Addr) (n cap k : Nat) (hk : k ≤ cap) (W : World) :
    (Instr.slice t (.slice A n cap) none (some (.int .i64 (k : Int))) none).run P W = .ok (.slice A k cap) W := by
  rw [run_slice_h W t A n cap ht .i64 (k : Int) (by omega) (by omega)]
  obtain ⟨i, hi, hz⟩ := Option.map_eq_some_iff.1 hs
  cases A with
  | none => simp [sizeOf, typeInfo, hi, hz, Result.andThen, sliced]
  | some a => by_cases hc : cap = 0 <;> simp [sizeOf, typeInfo, hi, hz, Result.andThen, sliced, Addr.add, hc]

/-! ### rows cut short; their forms, whatever an element's cells -/
theorem own_weaken {w : World} {base base' : Nat} {e : TypeId} {size : Nat} {v : Value} {n : Nat} {xs : List Value} (h : w.ownsRow base e size v n xs) (hb : base' ≤ base) : w.ownsRow base' e size v n xs := by
  refine ⟨h.1, ?_⟩
  rcases h.2 with h2 | ⟨g, cap, cur, h3, h4, h5⟩
  · exact .inl h2
  · exact .inr ⟨g, cap, cur, h3, Nat.le_trans hb h4, h5⟩
theorem own_sliceN {w : World} {base : Nat} {e : TypeId} {size : Nat} {v : Value} {n : Nat} {xs : List Value} (h : w.ownsRow base e size v n xs) : ∃ A c, v = .slice A n c ∧ n ≤ c ∧ c ≤ maxLen ∧ (A = none → c = 0) ∧ (∀ a, A = some a → base ≤ a.block ∧ a.block < w.heap.size ∧ a = ⟨a.block, 0, none⟩) := by
  have hlt := h.lt
  rcases h.2 with ⟨rfl, h0⟩ | ⟨g, cap, cur, rfl, h1, h2, h3, h4, h5⟩
  · exact ⟨none, 0, by rw [h0], by omega, by decide, fun _ => rfl, fun a e => by cases e⟩
  · exact ⟨_, cap, rfl, h3, h4, (fun e => by cases e), fun a e => by injection e with e; subst e; exact ⟨(hlt g rfl).1, (hlt g rfl).2, rfl⟩⟩
theorem own_same (A : Option Addr) (k n c : Nat) : (Value.slice A k c).ownBlock = (Value.slice A n c).ownBlock := by cases A <;> rfl

/-! ### lists of strings -/
def strS (s : List UInt8) : Value := .string ⟨s.toArray⟩
theorem str_eta (n : ByteArray) : (Value.string n) = strS n.data.toList := by
  obtain ⟨⟨l⟩⟩ := n
  rfl
/-- The slice of address A reads as the texts l. -/
def Strs (w : World) (A : Option Addr) (l : List (List UInt8)) : Prop :=
  0 < l.length → ∃ b off, A = some ⟨b, off, none⟩ ∧ ∀ (j : Nat) (s : List UInt8), l[j]? = some s → w.cell? ⟨b, off + j, none⟩ = some (strS s)
theorem Strs.below {w w' : World} {A : Option Addr} {l : List (List UInt8)} (h : Strs w A l) (hb : Below w.heap.size w w') : Strs w' A l := fun h0 => by
  obtain ⟨b, off, h1, h2⟩ := h h0
  exact ⟨b, off, h1, fun j s hs => below_cell hb (h2 j s hs)⟩
theorem Strs.nil (w : World) (A : Option Addr) : Strs w A [] := fun h => by simp at h
theorem Strs.take {w : World} {A : Option Addr} {l : List (List UInt8)} (h : Strs w A l) (k : Nat) : Strs w A (l.take k) := fun h0 => by
  rw [List.length_take] at h0
  obtain ⟨b, off, h1, h2⟩ := h (by omega)
  refine ⟨b, off, h1, fun j s hs => h2 j s ?_⟩
  by_cases hj : j < k
  · rwa [List.getElem?_take_of_lt hj] at hs
  · rw [List.getElem?_eq_none (by rw [List.length_take]; omega)] at hs
    cases hs
theorem strs_own {w : World} {base : Nat} {e : TypeId} {A : Option Addr} {n c : Nat} {l : List (List UInt8)} (h : w.ownsRow base e 1 (.slice A n c) n (l.map strS)) : l.length = n ∧ Strs w A l ∧ n ≤ c ∧ c ≤ maxLen := by
  have hl : l.length = n := by simpa using h.1
  obtain ⟨A', c', e1, h1, h2, -⟩ := own_slice h
  injection e1 with e1 _ e3
  subst e1; subst e3
  refine ⟨hl, fun h0 => ?_, h1, h2⟩
  obtain ⟨g, cap, e4, -⟩ := own_form h (by omega)
  injection e4 with e4 _ e5
  subst e4; subst e5
  refine ⟨g, 0, rfl, fun j s hs => ?_⟩
  have hj : j < l.length := (List.getElem?_eq_some_iff.1 hs).1
  rw [Nat.zero_add, h.cellAt j (by omega), List.getElem?_map, hs]
  rfl
end Go.Proofs.Ytimbbfneaaglbaa.Mem

namespace Go.Proofs.Ytimbbfneaaglbaa.Trace
open Go.RowKit Go.ChangeShapes Go.WideShapes Go.Deep Go.Proofs.Ytimbbfneaaglbaa.Ints Go.Proofs.Ytimbbfneaaglbaa.Mem

/-- An event. -/
structure Ev where
  time : Int
  ids : List Int
deriving DecidableEq

/-- The two cells of an event, in blocks of S. -/
def EvAt (S : Nat → Prop) (w : World) (b o : Nat) (e : Ev) : Prop :=
  w.cell? ⟨b, o, none⟩ = some (.int .u64 e.time) ∧ (Lit.int .u64 e.time).wf = true ∧
    ∃ (K : Option Addr) (c : Nat), w.cell? ⟨b, o + 1, none⟩ = some (.slice K e.ids.length c) ∧ Rd .i64 w K e.ids.length e.ids ∧ e.ids.length ≤ c ∧ c ≤ maxLen ∧ S b ∧ (∀ a, K = some a → 0 < e.ids.length → S a.block)
theorem EvAt.keep {S : Nat → Prop} {w w' : World} {b o : Nat} {e : Ev} (h : EvAt S w b o e) (hk : ∀ p u, S p.block → w.cell? p = some u → w'.cell? p = some u) : EvAt S w' b o e := by
  obtain ⟨h1, h5, K, c, h9, h10, h11, h12, h13, h14⟩ := h
  refine ⟨hk _ _ h13 h1, h5, K, c, hk _ _ h13 h9, ⟨h10.1, h10.2.1, fun h0 => ?_⟩, h11, h12, h13, h14⟩
  obtain ⟨b', off, e', hc⟩ := h10.2.2 h0
  exact ⟨b', off, e', fun j hj => hk ⟨b', off + j, none⟩ _ (h14 ⟨b', off, none⟩ e' h0) (hc j hj)⟩
theorem EvAt.mono {S S' : Nat → Prop} {w : World} {b o : Nat} {e : Ev} (h : EvAt S w b o e) (hs : ∀ b, b < w.heap.size → S b → S' b) : EvAt S' w b o e := by
  obtain ⟨h1, h5, K, c, h9, h10, h11, h12, h13, h14⟩ := h
  refine ⟨h1, h5, K, c, h9, h10, h11, h12, hs _ (World.block_lt_of_cell? w _ h1) h13, fun a e1 h0 => ?_⟩
  obtain ⟨b', off, e', hc⟩ := h10.2.2 h0
  subst e1
  injection e' with e'
  subst e'
  exact hs _ (World.block_lt_of_cell? w _ (hc 0 h0)) (h14 _ rfl h0)
theorem EvAt.below {S : Nat → Prop} {w w' : World} {b o : Nat} {e : Ev} (h : EvAt S w b o e) (hb : Below w.heap.size w w') : EvAt S w' b o e :=
  h.keep fun p _ _ hp => (hb.cell (World.block_lt_of_cell? w p hp)).trans hp
/-- The slice of address A reads as the events l, in blocks of S. -/
def Evs (S : Nat → Prop) (w : World) (A : Option Addr) (l : List Ev) : Prop :=
  0 < l.length → ∃ b off, A = some ⟨b, off, none⟩ ∧ ∀ (j : Nat) (e : Ev), l[j]? = some e → EvAt S w b (off + 2 * j) e
theorem Evs.keep {S : Nat → Prop} {w w' : World} {A : Option Addr} {l : List Ev} (h : Evs S w A l) (hk : ∀ p u, S p.block → w.cell? p = some u → w'.cell? p = some u) : Evs S w' A l := fun h0 => by
  obtain ⟨b, off, h1, h2⟩ := h h0
  exact ⟨b, off, h1, fun j n hn => (h2 j n hn).keep hk⟩
theorem Evs.mono {S S' : Nat → Prop} {w : World} {A : Option Addr} {l : List Ev} (h : Evs S w A l) (hs : ∀ b, b < w.heap.size → S b → S' b) : Evs S' w A l := fun h0 => by
  obtain ⟨b, off, h1, h2⟩ := h h0
  exact ⟨b, off, h1, fun j n hn => (h2 j n hn).mono hs⟩
theorem Evs.any {S : Nat → Prop} {w : World} {A : Option Addr} {l : List Ev} (h : Evs S w A l) : Evs Any w A l := h.mono fun _ _ _ => trivial
theorem Evs.below {S : Nat → Prop} {w w' : World} {A : Option Addr} {l : List Ev} (h : Evs S w A l) (hb : Below w.heap.size w w') : Evs S w' A l :=
  h.keep fun p _ _ hp => (hb.cell (World.block_lt_of_cell? w p hp)).trans hp
theorem Evs.nil (S : Nat → Prop) (w : World) (A : Option Addr) : Evs S w A [] := fun h => by simp at h
theorem Evs.take {S : Nat → Prop} {w : World} {A : Option Addr} {l : List Ev} (h : Evs S w A l) (k : Nat) : Evs S w A (l.take k) := fun h0 => by
  rw [List.length_take] at h0
  obtain ⟨b, off, h1, h2⟩ := h (by omega)
  refine ⟨b, off, h1, fun j s hs => h2 j s ?_⟩
  by_cases hj : j < k
  · rwa [List.getElem?_take_of_lt hj] at hs
  · rw [List.getElem?_eq_none (by rw [List.length_take]; omega)] at hs
    cases hs

theorem structEvent : Try.prog.underlying 46 = some (.struct (Try.prog.fieldsOf 46)) := by kernel_rfl
theorem fieldsEvent : (Try.prog.fieldsOf 46).toList.map (fun f => (f.type, f.offset)) = [(22, 0), (24, 1)] := by kernel_rfl
theorem cellsEvent : Try.prog.cellsOf 46 = 2 := by kernel_rfl
theorem cellsU64 : Try.prog.cellsOf 22 = 1 := by kernel_rfl

section
variable {H : Type} {enc : TypeId × Value → H} {w : World}
/-- What an event's values are good for. -/
def EvOk (w : World) (e : Ev) (K : Option Addr) (c : Nat) : Prop :=
  (Lit.int .u64 e.time).wf = true ∧ Rd .i64 w K e.ids.length e.ids ∧ e.ids.length ≤ c ∧ c ≤ maxLen
/-- One event that is read. -/
theorem event_vals {fuel : Nat} {cs : List Value} {x : DataW H × List MemPlace} (h : DataW.trod enc Try.prog w 0 (fun _ => true) true fuel 46 cs = some x) :
    ∃ e K c, cs[0]? = some (.int .u64 e.time) ∧ cs[1]? = some (.slice K e.ids.length c) ∧ EvOk w e K c := by
  obtain ⟨ys, m, -, -, -, hlen, hf⟩ := DataW.trod_struct structEvent h
  have hsz : (Try.prog.fieldsOf 46).size = 2 := by
    have := congrArg List.length fieldsEvent
    simpa using this
  obtain ⟨f0, g0, t0, o0⟩ := field_at fieldsEvent (i := 0) rfl
  obtain ⟨f1, g1, t1, o1⟩ := field_at fieldsEvent (i := 1) rfl
  obtain ⟨y0, e0⟩ : ∃ y, ys[0]? = some y := ⟨_, List.getElem?_eq_getElem (by omega)⟩
  obtain ⟨y1, e1⟩ : ∃ y, ys[1]? = some y := ⟨_, List.getElem?_eq_getElem (by omega)⟩
  have k0 := hf 0 f0 g0
  have k1 := hf 1 f1 g1
  rw [t0, o0, e0, cellsU64] at k0
  rw [t1, o1, e1, cellsInts] at k1
  obtain ⟨tm, c0, -, w0⟩ := DataW.trod_int Try.underlying22 k0
  have d0 := one_of c0
  rcases open_ints Try.underlying24 Try.underlying3 cellsInt k1 with ⟨hcs, -⟩ | ⟨a, len, cap, us, hcs, -, hl, hm, hz, -, hcell, hwf⟩
  · exact ⟨⟨tm, []⟩, none, 0, d0, one_of hcs, w0, Rd.nil _ _ _, Nat.le_refl _, by decide⟩
  · have d3 := one_of hcs
    obtain ⟨hr, hl', hm'⟩ := rd_of (k := .i64) (w := w) (A := some a) (zs := us) (len := len) (cap := cap) (Or.inr ⟨a, rfl, hl, hm, by simpa using hz, hcell, hwf⟩)
    have hlen3 : (us.take len).length = len := by rw [List.length_take]; have : us.length = cap := by simpa using hz
                                                  omega
    refine ⟨⟨tm, us.take len⟩, some a, cap, d0, ?_, w0, ?_, ?_, hm⟩
    · simp only [hlen3]; exact d3
    · simp only [hlen3]; exact hr
    · simp only [hlen3]; exact hl
theorem event_of {fuel : Nat} {cs : List Value} {x : DataW H × List MemPlace} {b o : Nat} (h : DataW.trod enc Try.prog w 0 (fun _ => true) true fuel 46 cs = some x)
    (hc : ∀ j, j < 2 → w.cell? ⟨b, o + j, none⟩ = cs[j]?) : ∃ e, EvAt Any w b o e := by
  obtain ⟨e, K, c, d0, d1, h5, h9, h10, h11⟩ := event_vals h
  exact ⟨e, (hc 0 (by omega)).trans d0, h5, K, c, (hc 1 (by omega)).trans d1, h9, h10, h11, trivial, fun _ _ _ => trivial⟩
theorem two_values {cs : Array Value} {u v : Value} (hsz : cs.size = 2) (d0 : cs.toList[0]? = some u) (d1 : cs.toList[1]? = some v) : cs = #[u, v] := by
  obtain ⟨l⟩ := cs
  match l, hsz with
  | [a, b], _ => simp at d0 d1; rw [d0, d1]
set_option maxRecDepth 100000 in
/-- An event that came in by value. -/
theorem event_value {r : Reach} {b0 : Nat} {v : Value} {d : DataW H} {p : List MemPlace} (hv : Value.okWide Try.prog w r b0 46 v) (h : DataW.Trod enc Try.prog w 0 (fun _ => true) true 46 v d p) :
    ∃ (e : Ev) (K : Option Addr) (c : Nat), v = .agg #[.int .u64 e.time, .slice K e.ids.length c] ∧ EvOk w e K c := by
  obtain ⟨cs, rfl, hsz⟩ := okWide_struct structEvent hv
  obtain ⟨fuel, hf⟩ := h
  obtain ⟨e, K, c, d0, d1, h5⟩ := event_vals hf
  exact ⟨e, K, c, by rw [two_values (hsz.trans cellsEvent) d0 d1], h5⟩
end
theorem EvOk.below {w w' : World} {e : Ev} {K : Option Addr} {c : Nat} (h : EvOk w e K c) (hb : Below w.heap.size w w') : EvOk w' e K c := ⟨h.1, h.2.1.below hb, h.2.2⟩
def noEv : Ev := ⟨0, []⟩
theorem ev_eq (x y : Ev) : decide (x = y) = (decide (x.time = y.time) && decide (x.ids = y.ids)) := by
  cases x; cases y
  simp only [Ev.mk.injEq, Bool.decide_and]
theorem int_beq (a b : Int) : (a == b) = decide (a = b) := by
  rw [Bool.eq_iff_iff, beq_iff_eq, decide_eq_true_iff]
end Go.Proofs.Ytimbbfneaaglbaa.Trace

namespace Go.Proofs.Ytimbbfneaaglbaa.Trace

/-- The i-th id is one, and greater than the one before it. -/
def IdGood (l : List Int) (props : Int) (i : Nat) : Prop := 0 ≤ l.getD i 0 ∧ l.getD i 0 < props ∧ (0 < i → l.getD (i - 1) 0 < l.getD i 0)
instance (l : List Int) (props : Int) (i : Nat) : Decidable (IdGood l props i) := by unfold IdGood; infer_instance
def idsOk (l : List Int) (props : Int) : Bool := decide (∀ i, i < l.length → IdGood l props i)
theorem ids_yes {l : List Int} {p : Int} (h : ∀ i, i < l.length → IdGood l p i) : idsOk l p = true := decide_eq_true h
theorem ids_no {l : List Int} {p : Int} {i : Nat} (hi : i < l.length) (h : ¬ IdGood l p i) : idsOk l p = false := decide_eq_false fun e => h (e i hi)
theorem good_more {p : Nat → Prop} {k : Nat} (h : ∀ i, i < k → p i) (hk : p k) : ∀ i, i < k + 1 → p i := fun i hi => by
  by_cases e : i = k
  · exact e ▸ hk
  · exact h i (by omega)
theorem idsOk_iff (l : List Int) (p : Int) : idsOk l p = true ↔ ∀ i, i < l.length → IdGood l p i := decide_eq_true_iff
theorem getD_at {α : Type} {l : List α} {i : Nat} {x d : α} (h : l[i]? = some x) : l.getD i d = x := by simp [List.getD, h]
theorem getD_take {α : Type} (l : List α) (k i : Nat) (d : α) (h : i < k) : (l.take k).getD i d = l.getD i d := by simp [List.getD, List.getElem?_take_of_lt h]
theorem getD_append_left {α : Type} (l m : List α) (i : Nat) (d : α) (h : i < l.length) : (l ++ m).getD i d = l.getD i d := by simp [List.getD, List.getElem?_append_left h]
end Go.Proofs.Ytimbbfneaaglbaa.Trace

namespace Go.Proofs.Ytimbbfneaaglbaa.SumMath

/-- the low half -/
def adl : Int → List Int → Int
  | a, [] => a
  | a, x :: l => adl ((a + x) % 65521) l
/-- the high half -/
def adh : Int → Int → List Int → Int
  | _, c, [] => c
  | a, c, x :: l => adh ((a + x) % 65521) ((c + (a + x) % 65521) % 65521) l
/-- the sum that goes on from s -/
def adn (s : Int) (l : List Int) : Int := adh (s % 65536 % 65521) (s / 65536 % 65521) l * 65536 + adl (s % 65536 % 65521) l

theorem adl_append (l m : List Int) : ∀ a, adl a (l ++ m) = adl (adl a l) m := by
  induction l with
  | nil => intro a; rfl
  | cons x l ih => intro a; exact ih _
theorem adh_append (l m : List Int) : ∀ a c, adh a c (l ++ m) = adh (adl a l) (adh a c l) m := by
  induction l with
  | nil => intro a c; rfl
  | cons x l ih => intro a c; exact ih _ _
theorem adl_snoc (l : List Int) (a x : Int) : adl a (l ++ [x]) = (adl a l + x) % 65521 := by rw [adl_append]; rfl
theorem adh_snoc (l : List Int) (a c x : Int) : adh a c (l ++ [x]) = (adh a c l + (adl a l + x) % 65521) % 65521 := by rw [adh_append]; rfl
theorem adl_bd (l : List Int) : ∀ a, 0 ≤ a → a < 65521 → 0 ≤ adl a l ∧ adl a l < 65521 := by
  induction l with
  | nil => intro a h0 h1; exact ⟨h0, h1⟩
  | cons x l ih => intro a _ _; exact ih _ (by omega) (by omega)
theorem adh_bd (l : List Int) : ∀ a c, 0 ≤ c → c < 65521 → 0 ≤ adh a c l ∧ adh a c l < 65521 := by
  induction l with
  | nil => intro a c h0 h1; exact ⟨h0, h1⟩
  | cons x l ih => intro a c _ _; exact ih _ _ (by omega) (by omega)
theorem start_bd (s : Int) : 0 ≤ s % 65536 % 65521 ∧ s % 65536 % 65521 < 65521 ∧ 0 ≤ s / 65536 % 65521 ∧ s / 65536 % 65521 < 65521 := by omega
theorem adn_bd (s : Int) (l : List Int) : 0 ≤ adn s l ∧ adn s l ≤ 4294967295 := by
  obtain ⟨h1, h2, h3, h4⟩ := start_bd s
  have a := adl_bd l _ h1 h2
  have c := adh_bd l (s % 65536 % 65521) _ h3 h4
  unfold adn; omega
theorem adn_low (s : Int) (l : List Int) : adn s l % 65536 % 65521 = adl (s % 65536 % 65521) l := by
  obtain ⟨h1, h2, h3, h4⟩ := start_bd s
  have a := adl_bd l _ h1 h2
  unfold adn; omega
theorem adn_high (s : Int) (l : List Int) : adn s l / 65536 % 65521 = adh (s % 65536 % 65521) (s / 65536 % 65521) l := by
  obtain ⟨h1, h2, h3, h4⟩ := start_bd s
  have a := adl_bd l _ h1 h2
  have c := adh_bd l (s % 65536 % 65521) _ h3 h4
  unfold adn; omega
/-- A SUM GOES ON. -/
theorem adn_append (s : Int) (l m : List Int) : adn (adn s l) m = adn s (l ++ m) := by
  have e1 := adn_low s l
  have e2 := adn_high s l
  rw [adn, e1, e2, adn, adl_append, adh_append]

theorem adl_inj (l : List Int) : ∀ a b, 0 ≤ a → a < 65521 → 0 ≤ b → b < 65521 → adl a l = adl b l → a = b := by
  induction l with
  | nil => intro a b _ _ _ _ h; exact h
  | cons x l ih =>
    intro a b h1 h2 h3 h4 h
    have := ih ((a + x) % 65521) ((b + x) % 65521) (by omega) (by omega) (by omega) (by omega) h
    omega
theorem adh_inj (l : List Int) : ∀ a c d, 0 ≤ c → c < 65521 → 0 ≤ d → d < 65521 → adh a c l = adh a d l → c = d := by
  induction l with
  | nil => intro a c d _ _ _ _ h; exact h
  | cons x l ih =>
    intro a c d h1 h2 h3 h4 h
    have := ih ((a + x) % 65521) ((c + (a + x) % 65521) % 65521) ((d + (a + x) % 65521) % 65521) (by omega) (by omega) (by omega) (by omega) h
    omega
theorem adn_parts (s : Int) (l m : List Int) (h : adn s l = adn s m) :
    adl (s % 65536 % 65521) l = adl (s % 65536 % 65521) m ∧ adh (s % 65536 % 65521) (s / 65536 % 65521) l = adh (s % 65536 % 65521) (s / 65536 % 65521) m := by
  rw [← adn_low s l, ← adn_low s m, ← adn_high s l, ← adn_high s m, h]
  exact ⟨rfl, rfl⟩
/-- ONE BYTE CHANGED IS TOLD. -/
theorem adn_changed (s x y : Int) (p t : List Int) (hx : 0 ≤ x ∧ x ≤ 255) (hy : 0 ≤ y ∧ y ≤ 255) (h : adn s (p ++ x :: t) = adn s (p ++ y :: t)) : x = y := by
  have e := (adn_parts s _ _ h).1
  rw [adl_append, adl_append] at e
  obtain ⟨h1, h2, _, _⟩ := start_bd s
  have a := adl_bd p _ h1 h2
  have := adl_inj t _ _ (by omega) (by omega) (by omega) (by omega) e
  omega
/-- TWO SIDE BY SIDE THAT CHANGE PLACES ARE TOLD. -/
theorem adn_swapped (s x y : Int) (p t : List Int) (hx : 0 ≤ x ∧ x ≤ 255) (hy : 0 ≤ y ∧ y ≤ 255) (h : adn s (p ++ x :: y :: t) = adn s (p ++ y :: x :: t)) : x = y := by
  have e := (adn_parts s _ _ h).2
  rw [adh_append, adh_append] at e
  obtain ⟨h1, h2, h3, h4⟩ := start_bd s
  have a := adl_bd p _ h1 h2
  have c := adh_bd p (s % 65536 % 65521) _ h3 h4
  generalize adl (s % 65536 % 65521) p = A at *
  generalize adh (s % 65536 % 65521) (s / 65536 % 65521) p = C at *
  have e' : adh ((A + x) % 65521 + y) ((C + (A + x) % 65521) % 65521) [] = adh ((A + x) % 65521 + y) ((C + (A + x) % 65521) % 65521) [] := rfl
  clear e'
  have q : ((A + x) % 65521 + y) % 65521 = ((A + y) % 65521 + x) % 65521 := by omega
  have e2 : adh (((A + x) % 65521 + y) % 65521) (((C + (A + x) % 65521) % 65521 + ((A + x) % 65521 + y) % 65521) % 65521) t
      = adh (((A + y) % 65521 + x) % 65521) (((C + (A + y) % 65521) % 65521 + ((A + y) % 65521 + x) % 65521) % 65521) t := e
  rw [← q] at e2
  have := adh_inj t _ _ _ (by omega) (by omega) (by omega) (by omega) e2
  omega

/-! ### The sum by blocks: remainders are taken late. -/
/-- Within a block, behind k of its bytes: a and c are right but for multiples of 65521, and small enough. -/
def Inn (A C : Int) (k : Nat) (l : List Int) (a c : Int) : Prop :=
  0 ≤ a ∧ a ≤ 65520 + 255 * (k : Int) ∧ 0 ≤ c ∧ 2 * c ≤ 131040 + 131040 * (k : Int) + 255 * ((k : Int) * (k : Int) + (k : Int)) ∧ a % 65521 = adl A l ∧ c % 65521 = adh A C l
theorem inn_start (A C : Int) (l : List Int) (h1 : 0 ≤ A) (h2 : A < 65521) (h3 : 0 ≤ C) (h4 : C < 65521) : Inn A C 0 l (adl A l) (adh A C l) := by
  have a := adl_bd l _ h1 h2
  have c := adh_bd l A _ h3 h4
  refine ⟨a.1, by omega, c.1, by simp; omega, by omega, by omega⟩
theorem inn_small {A C : Int} {k : Nat} {l : List Int} {a c x : Int} (h : Inn A C k l a c) (hk : k < 5552) (hx : 0 ≤ x ∧ x ≤ 255) :
    0 ≤ a + x ∧ a + x ≤ 4294967295 ∧ 0 ≤ c + (a + x) ∧ c + (a + x) ≤ 4294967295 := by
  obtain ⟨h1, h2, h3, h4, _, _⟩ := h
  have hk2 : (k : Int) * (k : Int) ≤ 5551 * (k : Int) := Int.mul_le_mul_of_nonneg_right (by omega) (by omega)
  omega
theorem inn_step {A C : Int} {k : Nat} {l : List Int} {a c x : Int} (h : Inn A C k l a c) (hx : 0 ≤ x ∧ x ≤ 255) : Inn A C (k + 1) (l ++ [x]) (a + x) (c + (a + x)) := by
  obtain ⟨h1, h2, h3, h4, h5, h6⟩ := h
  have e : ((k + 1 : Nat) : Int) * ((k + 1 : Nat) : Int) = (k : Int) * (k : Int) + 2 * (k : Int) + 1 := by
    have : ((k + 1 : Nat) : Int) = (k : Int) + 1 := by omega
    rw [this, Int.mul_add, Int.add_mul]; omega
  refine ⟨by omega, by omega, by omega, by rw [e]; omega, ?_, ?_⟩
  · rw [adl_snoc]; omega
  · rw [adh_snoc]; omega
theorem inn_now {A C : Int} {k : Nat} {l : List Int} {a c : Int} (h : Inn A C k l a c) (hk : k ≤ 5552) : 0 ≤ a ∧ a ≤ 4294967295 ∧ 0 ≤ c ∧ c ≤ 4294967295 := by
  obtain ⟨h1, h2, h3, h4, _, _⟩ := h
  have hk2 : (k : Int) * (k : Int) ≤ 5552 * (k : Int) := Int.mul_le_mul_of_nonneg_right (by omega) (by omega)
  omega

/-! ### The sum by the lengths -/
/-- what stands behind k of n bytes: the low one is exact, the high one right but for multiples -/
theorem adds_step (n k : Nat) (c z A C : Int) (h : (c - (C + ((n : Int) - k) * A)) % 65521 = 0) :
    (c + z * ((n : Int) - k) - ((C + (A + z) % 65521) % 65521 + ((n : Int) - ((k + 1 : Nat) : Int)) * ((A + z) % 65521))) % 65521 = 0 := by
  obtain ⟨q, hq⟩ : ∃ q, (A + z) % 65521 = A + z - 65521 * q := ⟨(A + z) / 65521, by omega⟩
  rw [hq]
  have e1 : ((n : Int) - ((k + 1 : Nat) : Int)) * (A + z - 65521 * q) = ((n : Int) - k) * A + z * ((n : Int) - k) - 65521 * (((n : Int) - k) * q) - (A + z - 65521 * q) := by
    have : ((n : Int) - ((k + 1 : Nat) : Int)) = ((n : Int) - k) - 1 := by omega
    rw [this, Int.sub_mul, Int.one_mul, Int.mul_sub, Int.mul_add, Int.mul_comm z, Int.mul_left_comm]
  rw [e1]
  omega
end Go.Proofs.Ytimbbfneaaglbaa.SumMath
