/-
  Events in memory: an event by value, and its two cells; what an event that came in reads as. By an AI agent.
-/
import Derived.Test.YtpcahfjejbiocaaMemKit
namespace Go.Proofs.Ytpcahfjejbiocaa.Trace
open Go.RowKit Go.ChangeShapes Go.WideShapes Go.Deep Go.Proofs.Ytpcahfjejbiocaa.Ints Go.Proofs.Ytpcahfjejbiocaa.Mem

/-- An event. -/
structure Ev where
  time : Int
  ids : List Int
deriving DecidableEq

/-- The two cells of an event, in blocks of S. -/
def EvAt (S : Nat → Prop) (w : World) (b o : Nat) (e : Ev) : Prop :=
  w.cell? ⟨b, o, none⟩ = some (.int .u64 e.time) ∧ (Lit.int .u64 e.time).wf = true ∧
    ∃ (K : Option Addr) (c : Nat), w.cell? ⟨b, o + 1, none⟩ = some (.slice K e.ids.length c) ∧ Rd .i64 w K e.ids.length e.ids ∧ e.ids.length ≤ c ∧ c ≤ maxLen ∧ S b ∧ (∀ a, K = some a → 0 < e.ids.length → S a.block)
theorem EvAt.keep {S : Nat → Prop} {w w' : World} {b o : Nat} {e : Ev} (h : EvAt S w b o e) (hk : ∀ p u, S p.block → w.cell? p = some u → w'.cell? p = some u) : EvAt S w' b o e := by
  obtain ⟨h1, h5, K, c, h9, h10, h11, h12, h13, h14⟩ := h
  refine ⟨hk _ _ h13 h1, h5, K, c, hk _ _ h13 h9, ⟨h10.1, h10.2.1, fun h0 => ?_⟩, h11, h12, h13, h14⟩
  obtain ⟨b', off, e', hc⟩ := h10.2.2 h0
  exact ⟨b', off, e', fun j hj => hk ⟨b', off + j, none⟩ _ (h14 ⟨b', off, none⟩ e' h0) (hc j hj)⟩
theorem EvAt.mono {S S' : Nat → Prop} {w : World} {b o : Nat} {e : Ev} (h : EvAt S w b o e) (hs : ∀ b, b < w.heap.size → S b → S' b) : EvAt S' w b o e := by
  obtain ⟨h1, h5, K, c, h9, h10, h11, h12, h13, h14⟩ := h
  refine ⟨h1, h5, K, c, h9, h10, h11, h12, hs _ (World.block_lt_of_cell? w _ h1) h13, fun a e1 h0 => ?_⟩
  obtain ⟨b', off, e', hc⟩ := h10.2.2 h0
  subst e1
  injection e' with e'
  subst e'
  exact hs _ (World.block_lt_of_cell? w _ (hc 0 h0)) (h14 _ rfl h0)
theorem EvAt.below {S : Nat → Prop} {w w' : World} {b o : Nat} {e : Ev} (h : EvAt S w b o e) (hb : Below w.heap.size w w') : EvAt S w' b o e :=
  h.keep fun p _ _ hp => (hb.cell (World.block_lt_of_cell? w p hp)).trans hp
/-- The slice of address A reads as the events l, in blocks of S. -/
def Evs (S : Nat → Prop) (w : World) (A : Option Addr) (l : List Ev) : Prop :=
  0 < l.length → ∃ b off, A = some ⟨b, off, none⟩ ∧ ∀ (j : Nat) (e : Ev), l[j]? = some e → EvAt S w b (off + 2 * j) e
theorem Evs.keep {S : Nat → Prop} {w w' : World} {A : Option Addr} {l : List Ev} (h : Evs S w A l) (hk : ∀ p u, S p.block → w.cell? p = some u → w'.cell? p = some u) : Evs S w' A l := fun h0 => by
  obtain ⟨b, off, h1, h2⟩ := h h0
  exact ⟨b, off, h1, fun j n hn => (h2 j n hn).keep hk⟩
theorem Evs.mono {S S' : Nat → Prop} {w : World} {A : Option Addr} {l : List Ev} (h : Evs S w A l) (hs : ∀ b, b < w.heap.size → S b → S' b) : Evs S' w A l := fun h0 => by
  obtain ⟨b, off, h1, h2⟩ := h h0
  exact ⟨b, off, h1, fun j n hn => (h2 j n hn).mono hs⟩
theorem Evs.any {S : Nat → Prop} {w : World} {A : Option Addr} {l : List Ev} (h : Evs S w A l) : Evs Any w A l := h.mono fun _ _ _ => trivial
theorem Evs.below {S : Nat → Prop} {w w' : World} {A : Option Addr} {l : List Ev} (h : Evs S w A l) (hb : Below w.heap.size w w') : Evs S w' A l :=
  h.keep fun p _ _ hp => (hb.cell (World.block_lt_of_cell? w p hp)).trans hp
theorem Evs.nil (S : Nat → Prop) (w : World) (A : Option Addr) : Evs S w A [] := fun h => by simp at h
theorem Evs.take {S : Nat → Prop} {w : World} {A : Option Addr} {l : List Ev} (h : Evs S w A l) (k : Nat) : Evs S w A (l.take k) := fun h0 => by
  rw [List.length_take] at h0
  obtain ⟨b, off, h1, h2⟩ := h (by omega)
  refine ⟨b, off, h1, fun j s hs => h2 j s ?_⟩
  by_cases hj : j < k
  · rwa [List.getElem?_take_of_lt hj] at hs
  · rw [List.getElem?_eq_none (by rw [List.length_take]; omega)] at hs
    cases hs

theorem structEvent : Try.prog.underlying 26 = some (.struct (Try.prog.fieldsOf 26)) := by kernel_rfl
theorem fieldsEvent : (Try.prog.fieldsOf 26).toList.map (fun f => (f.type, f.offset)) = [(23, 0), (24, 1)] := by kernel_rfl
theorem cellsEvent : Try.prog.cellsOf 26 = 2 := by kernel_rfl
theorem cellsU64 : Try.prog.cellsOf 23 = 1 := by kernel_rfl

section
variable {H : Type} {enc : TypeId × Value → H} {w : World}
/-- What an event's values are good for. -/
def EvOk (w : World) (e : Ev) (K : Option Addr) (c : Nat) : Prop :=
  (Lit.int .u64 e.time).wf = true ∧ Rd .i64 w K e.ids.length e.ids ∧ e.ids.length ≤ c ∧ c ≤ maxLen
/-- One event that is read. -/
theorem event_vals {fuel : Nat} {cs : List Value} {x : DataW H × List MemPlace} (h : DataW.trod enc Try.prog w 0 (fun _ => true) true fuel 26 cs = some x) :
    ∃ e K c, cs[0]? = some (.int .u64 e.time) ∧ cs[1]? = some (.slice K e.ids.length c) ∧ EvOk w e K c := by
  obtain ⟨ys, m, -, -, -, hlen, hf⟩ := DataW.trod_struct structEvent h
  have hsz : (Try.prog.fieldsOf 26).size = 2 := by
    have := congrArg List.length fieldsEvent
    simpa using this
  obtain ⟨f0, g0, t0, o0⟩ := field_at fieldsEvent (i := 0) rfl
  obtain ⟨f1, g1, t1, o1⟩ := field_at fieldsEvent (i := 1) rfl
  obtain ⟨y0, e0⟩ : ∃ y, ys[0]? = some y := ⟨_, List.getElem?_eq_getElem (by omega)⟩
  obtain ⟨y1, e1⟩ : ∃ y, ys[1]? = some y := ⟨_, List.getElem?_eq_getElem (by omega)⟩
  have k0 := hf 0 f0 g0
  have k1 := hf 1 f1 g1
  rw [t0, o0, e0, cellsU64] at k0
  rw [t1, o1, e1, cellsInts] at k1
  obtain ⟨tm, c0, -, w0⟩ := DataW.trod_int Try.underlying23 k0
  have d0 := one_of c0
  rcases open_ints Try.underlying24 Try.underlying3 cellsInt k1 with ⟨hcs, -⟩ | ⟨a, len, cap, us, hcs, -, hl, hm, hz, -, hcell, hwf⟩
  · exact ⟨⟨tm, []⟩, none, 0, d0, one_of hcs, w0, Rd.nil _ _ _, Nat.le_refl _, by decide⟩
  · have d3 := one_of hcs
    obtain ⟨hr, hl', hm'⟩ := rd_of (k := .i64) (w := w) (A := some a) (zs := us) (len := len) (cap := cap) (Or.inr ⟨a, rfl, hl, hm, by simpa using hz, hcell, hwf⟩)
    have hlen3 : (us.take len).length = len := by rw [List.length_take]; have : us.length = cap := by simpa using hz
                                                  omega
    refine ⟨⟨tm, us.take len⟩, some a, cap, d0, ?_, w0, ?_, ?_, hm⟩
    · simp only [hlen3]; exact d3
    · simp only [hlen3]; exact hr
    · simp only [hlen3]; exact hl
theorem event_of {fuel : Nat} {cs : List Value} {x : DataW H × List MemPlace} {b o : Nat} (h : DataW.trod enc Try.prog w 0 (fun _ => true) true fuel 26 cs = some x)
    (hc : ∀ j, j < 2 → w.cell? ⟨b, o + j, none⟩ = cs[j]?) : ∃ e, EvAt Any w b o e := by
  obtain ⟨e, K, c, d0, d1, h5, h9, h10, h11⟩ := event_vals h
  exact ⟨e, (hc 0 (by omega)).trans d0, h5, K, c, (hc 1 (by omega)).trans d1, h9, h10, h11, trivial, fun _ _ _ => trivial⟩
theorem two_values {cs : Array Value} {u v : Value} (hsz : cs.size = 2) (d0 : cs.toList[0]? = some u) (d1 : cs.toList[1]? = some v) : cs = #[u, v] := by
  obtain ⟨l⟩ := cs
  match l, hsz with
  | [a, b], _ => simp at d0 d1; rw [d0, d1]
set_option maxRecDepth 100000 in
/-- An event that came in by value. -/
theorem event_value {r : Reach} {b0 : Nat} {v : Value} {d : DataW H} {p : List MemPlace} (hv : Value.okWide Try.prog w r b0 26 v) (h : DataW.Trod enc Try.prog w 0 (fun _ => true) true 26 v d p) :
    ∃ (e : Ev) (K : Option Addr) (c : Nat), v = .agg #[.int .u64 e.time, .slice K e.ids.length c] ∧ EvOk w e K c := by
  obtain ⟨cs, rfl, hsz⟩ := okWide_struct structEvent hv
  obtain ⟨fuel, hf⟩ := h
  obtain ⟨e, K, c, d0, d1, h5⟩ := event_vals hf
  exact ⟨e, K, c, by rw [two_values (hsz.trans cellsEvent) d0 d1], h5⟩
end
theorem EvOk.below {w w' : World} {e : Ev} {K : Option Addr} {c : Nat} (h : EvOk w e K c) (hb : Below w.heap.size w w') : EvOk w' e K c := ⟨h.1, h.2.1.below hb, h.2.2⟩
def noEv : Ev := ⟨0, []⟩
theorem ev_eq (x y : Ev) : decide (x = y) = (decide (x.time = y.time) && decide (x.ids = y.ids)) := by
  cases x; cases y
  simp only [Ev.mk.injEq, Bool.decide_and]
theorem int_beq (a b : Int) : (a == b) = decide (a = b) := by
  rw [Bool.eq_iff_iff, beq_iff_eq, decide_eq_true_iff]
end Go.Proofs.Ytpcahfjejbiocaa.Trace
