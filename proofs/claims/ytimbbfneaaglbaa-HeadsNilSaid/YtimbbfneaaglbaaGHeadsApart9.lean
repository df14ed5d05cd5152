/-
  A pool of heads, as plain lists (stage 13). By an AI agent.
  What a call that hands back a trace leaves; an event of a list. By an AI agent.
  A block of memory, cell by cell. By an AI agent.
-/
import Derived.Test.YtimbbfneaaglbaaGHeadsApart8
import Derived.Test.YtimbbfneaaglbaaGHeadsApart7
import Derived.Test.YtimbbfneaaglbaaGHeadsApart2
namespace Go.Proofs.Ytimbbfneaaglbaa.Heads
open Go.Proofs.Ytimbbfneaaglbaa.Ints Go.Proofs.Ytimbbfneaaglbaa.Trace Go.Proofs.Ytimbbfneaaglbaa.Record Go.Proofs.Ytimbbfneaaglbaa.Log

/-- A pool: what can be read, what is wrong behind it, how many heads may be open, how many records are before each open head, the greatest number of cells so far. -/
structure PS where
  t : Tr
  er : Nat
  size : Int
  hs : List (Option Nat)
  peak : Nat
def headP (hs : List (Option Nat)) (id : Int) : Option Nat := if id < 0 then none else hs.getD id.toNat none
def countP (hs : List (Option Nat)) : Nat := hs.countP Option.isSome
def idsAt (t : Tr) (k : Nat) : Nat := if k = 0 then 0 else (t.events.getD (k - 1) noEv).ids.length
def cellP (t : Tr) : Option Nat → Nat
  | none => 0
  | some k => 3 + idsAt t k
def cellsP (t : Tr) (hs : List (Option Nat)) : Nat := (hs.map (cellP t)).sum
def freeP (hs : List (Option Nat)) : Nat := hs.findIdx Option.isNone
def putP (hs : List (Option Nat)) (id : Nat) (k : Nat) : List (Option Nat) := if id < hs.length then hs.set id (some k) else hs ++ [some k]
def meterP (s : PS) : PS := { s with peak := max s.peak (cellsP s.t s.hs) }
/-- Another head: its id, what is wrong, the pool. -/
def addP (s : PS) (k : Nat) : Nat × Nat × PS := if (countP s.hs : Int) = s.size then (0, 12, s) else (freeP s.hs, 0, meterP { s with hs := putP s.hs (freeP s.hs) k })
def cloneP (s : PS) (id : Int) : Nat × Nat × PS := match headP s.hs id with
  | none => (0, 11, s)
  | some k => addP s k
def nextP (s : PS) (id : Int) : Ev × Nat × PS := match headP s.hs id with
  | none => (noEv, 11, s)
  | some k => if k < s.t.events.length then (s.t.events.getD k noEv, 0, meterP { s with hs := s.hs.set id.toNat (some (k + 1)) }) else (noEv, s.er, s)
def seekP (s : PS) (id k : Int) : Nat × PS := match headP s.hs id with
  | none => (11, s)
  | some _ => if k < 0 then (1, s) else if (s.t.events.length : Int) < k then (s.er, s) else (0, meterP { s with hs := s.hs.set id.toNat (some k.toNat) })
def closeP (s : PS) (id : Int) : Bool × PS := match headP s.hs id with
  | none => (false, s)
  | some _ => (true, { s with hs := s.hs.set id.toNat none })
/-- What holds of every pool. -/
structure OkP (s : PS) : Prop where
  at_ : ∀ (i k : Nat), s.hs[i]? = some (some k) → k ≤ s.t.events.length
  room : (countP s.hs : Int) ≤ s.size
  peak : cellsP s.t s.hs ≤ s.peak
  er : s.er ≠ 0 ∧ s.er ≤ 20
  ids : ∀ e ∈ s.t.events, e.ids.length ≤ 64
theorem head_some {hs : List (Option Nat)} {id : Int} {k : Nat} (h : headP hs id = some k) : 0 ≤ id ∧ id.toNat < hs.length ∧ hs[id.toNat]? = some (some k) := by
  unfold headP at h
  split at h
  · cases h
  · rw [List.getD_eq_getElem?_getD] at h
    cases hq : hs[id.toNat]? with
    | none => rw [hq] at h; cases h
    | some o =>
      rw [hq] at h
      have h : o = some k := h
      exact ⟨by omega, (List.getElem?_eq_some_iff.1 hq).1, by rw [h]⟩
theorem head_none {hs : List (Option Nat)} {id : Int} (h : headP hs id = none) : id < 0 ∨ hs.length ≤ id.toNat ∨ hs[id.toNat]? = some none := by
  unfold headP at h
  split at h
  · exact .inl (by assumption)
  · rw [List.getD_eq_getElem?_getD] at h
    cases hq : hs[id.toNat]? with
    | none => exact .inr (.inl (List.getElem?_eq_none_iff.1 hq))
    | some o =>
      rw [hq] at h
      have h : o = none := h
      exact .inr (.inr (by rw [h]))
theorem free_le (hs : List (Option Nat)) : freeP hs ≤ hs.length := List.findIdx_le_length
theorem count_le (hs : List (Option Nat)) : countP hs ≤ hs.length := List.countP_le_length
/-- The id that is free, when it is told. -/
theorem free_at {hs : List (Option Nat)} (h : freeP hs < hs.length) : hs[freeP hs]? = some none := by
  have h2 := List.findIdx_getElem (p := Option.isNone) (xs := hs) (w := h)
  rw [List.getElem?_eq_getElem h]
  congr 1
  exact Option.isNone_iff_eq_none.1 h2
theorem free_before {hs : List (Option Nat)} {i : Nat} (h : i < freeP hs) : ∃ k, hs[i]? = some (some k) := by
  have hi : i < hs.length := Nat.lt_of_lt_of_le h (free_le hs)
  have h2 := List.not_of_lt_findIdx (p := Option.isNone) (xs := hs) h
  rw [List.getElem?_eq_getElem hi]
  cases hq : hs[i] with
  | none => rw [hq] at h2; simp at h2
  | some k => exact ⟨k, rfl⟩
theorem sum_set (l : List Nat) (i : Nat) (x : Nat) (h : i < l.length) : (l.set i x).sum + l[i] = l.sum + x := by
  induction l generalizing i with
  | nil => simp at h
  | cons a l ih =>
    cases i with
    | zero => simp [List.sum_cons]; omega
    | succ i =>
      have := ih i (by simpa using h)
      simp [List.sum_cons]
      omega
theorem map_set_cells (t : Tr) (hs : List (Option Nat)) (i : Nat) (o : Option Nat) : (hs.set i o).map (cellP t) = (hs.map (cellP t)).set i (cellP t o) := by
  rw [List.map_set]
theorem cells_set {t : Tr} {hs : List (Option Nat)} {i : Nat} {o : Option Nat} (h : hs[i]? = some o) (o2 : Option Nat) : cellsP t (hs.set i o2) + cellP t o = cellsP t hs + cellP t o2 := by
  obtain ⟨hi, hio⟩ := List.getElem?_eq_some_iff.1 h
  unfold cellsP
  rw [map_set_cells]
  have := sum_set (hs.map (cellP t)) i (cellP t o2) (by simpa using hi)
  rw [List.getElem_map, hio] at this
  exact this
theorem count_sum (hs : List (Option Nat)) : countP hs = (hs.map fun o => if o.isSome then 1 else 0).sum := by
  unfold countP
  induction hs with
  | nil => rfl
  | cons o l ih =>
    rw [List.countP_cons, ih, List.map_cons, List.sum_cons]
    cases o <;> simp <;> omega
theorem count_set {hs : List (Option Nat)} {i : Nat} {o : Option Nat} (h : hs[i]? = some o) (o2 : Option Nat) : countP (hs.set i o2) + (if o.isSome then 1 else 0) = countP hs + (if o2.isSome then 1 else 0) := by
  obtain ⟨hi, hio⟩ := List.getElem?_eq_some_iff.1 h
  rw [count_sum, count_sum, List.map_set]
  have := sum_set (hs.map fun o => if o.isSome then 1 else 0) i (if o2.isSome then 1 else 0) (by simpa using hi)
  rw [List.getElem_map, hio] at this
  exact this
theorem put_at (hs : List (Option Nat)) (k i : Nat) : (putP hs (freeP hs) k)[i]? = if i = freeP hs then some (some k) else hs[i]? := by
  have hfl := free_le hs
  unfold putP
  split
  · rename_i h
    rw [List.getElem?_set]
    by_cases e : i = freeP hs
    · subst e; simp [h]
    · rw [if_neg (fun h => e h.symm), if_neg e]
  · have e : freeP hs = hs.length := by omega
    rw [e, List.getElem?_append]
    split
    · rw [if_neg (by omega)]
    · by_cases e2 : i = hs.length
      · subst e2; simp
      · rw [if_neg e2, List.getElem?_eq_none (by simp; omega), List.getElem?_eq_none (by omega)]
theorem count_put (hs : List (Option Nat)) (k : Nat) : countP (putP hs (freeP hs) k) = countP hs + 1 := by
  have hfl := free_le hs
  unfold putP
  split
  · rename_i h
    have := count_set (free_at h) (some k)
    simp at this
    exact this
  · unfold countP
    rw [List.countP_append]
    rfl
/-! ### what holds goes on -/
theorem OkP.meter {s : PS} (h1 : ∀ (i k : Nat), s.hs[i]? = some (some k) → k ≤ s.t.events.length) (h2 : (countP s.hs : Int) ≤ s.size) (h3 : s.er ≠ 0 ∧ s.er ≤ 20) (h4 : ∀ e ∈ s.t.events, e.ids.length ≤ 64) : OkP (meterP s) :=
  ⟨h1, h2, Nat.le_max_right _ _, h3, h4⟩
theorem OkP.add {s : PS} (h : OkP s) {k : Nat} (hk : k ≤ s.t.events.length) : OkP (addP s k).2.2 := by
  unfold addP
  split
  · exact h
  · rename_i hc
    have := h.room
    refine OkP.meter (fun i j hij => ?_) (by show (countP (putP s.hs (freeP s.hs) k) : Int) ≤ s.size; rw [count_put]; omega) h.er h.ids
    have hij : (putP s.hs (freeP s.hs) k)[i]? = some (some j) := hij
    rw [put_at] at hij
    split at hij
    · injection hij with e; injection e with e; subst e; exact hk
    · exact h.at_ i j hij
theorem OkP.clone {s : PS} (h : OkP s) (id : Int) : OkP (cloneP s id).2.2 := by
  unfold cloneP
  split
  · exact h
  · rename_i k hk
    exact h.add (h.at_ _ k (head_some hk).2.2)
theorem OkP.set {s : PS} (h : OkP s) {id : Int} {k : Nat} (hk : headP s.hs id = some k) (j : Nat) (hj : j ≤ s.t.events.length) : OkP (meterP { s with hs := s.hs.set id.toNat (some j) }) := by
  obtain ⟨h0, h1, h2⟩ := head_some hk
  refine OkP.meter (fun i m hm => ?_) ?_ h.er h.ids
  · have hm : (s.hs.set id.toNat (some j))[i]? = some (some m) := hm
    rw [List.getElem?_set] at hm
    split at hm
    · injection hm with e; injection e with e; subst e; exact hj
    · exact h.at_ i m hm
  · have h3 := count_set h2 (some j)
    have := h.room
    simp at h3
    show (countP (s.hs.set id.toNat (some j)) : Int) ≤ s.size
    omega
theorem OkP.next {s : PS} (h : OkP s) (id : Int) : OkP (nextP s id).2.2 := by
  unfold nextP
  split
  · exact h
  · rename_i k hk
    split
    · rename_i hlt
      exact h.set hk _ hlt
    · exact h
theorem OkP.seek {s : PS} (h : OkP s) (id k : Int) : OkP (seekP s id k).2 := by
  unfold seekP
  split
  · exact h
  · rename_i j hj
    split
    · exact h
    · split
      · exact h
      · exact h.set hj _ (by omega)
theorem OkP.close {s : PS} (h : OkP s) (id : Int) : OkP (closeP s id).2 := by
  unfold closeP
  split
  · exact h
  · rename_i k hk
    obtain ⟨h0, h1, h2⟩ := head_some hk
    have h3 := count_set h2 none
    have h4 := cells_set (t := s.t) h2 none
    have := h.room
    have := h.peak
    refine ⟨fun i m hm => ?_, ?_, ?_, h.er, h.ids⟩
    · have hm : (s.hs.set id.toNat none)[i]? = some (some m) := hm
      rw [List.getElem?_set] at hm
      split at hm
      · cases hm
      · exact h.at_ i m hm
    · simp at h3
      show (countP (s.hs.set id.toNat none) : Int) ≤ s.size
      omega
    · have h5 : cellP s.t none = 0 := rfl
      show cellsP s.t (s.hs.set id.toNat none) ≤ s.peak
      omega
theorem meter_id {s : PS} (h : OkP s) : meterP s = s := by
  unfold meterP
  rw [Nat.max_eq_left h.peak]
structure AtP (s : PS) : Prop where
  at_ : ∀ (i k : Nat), s.hs[i]? = some (some k) → k ≤ s.t.events.length
  ids : ∀ e ∈ s.t.events, e.ids.length ≤ 64
theorem OkP.atp {s : PS} (h : OkP s) : AtP s := ⟨h.at_, h.ids⟩
theorem AtP.put {s : PS} (h : AtP s) {k : Nat} (hk : k ≤ s.t.events.length) : AtP { s with hs := putP s.hs (freeP s.hs) k } :=
  ⟨fun i j hij => by
    have hij : (putP s.hs (freeP s.hs) k)[i]? = some (some j) := hij
    rw [put_at] at hij
    split at hij
    · injection hij with e; injection e with e; subst e; exact hk
    · exact h.at_ i j hij, h.ids⟩
theorem AtP.set {s : PS} (h : AtP s) (i : Nat) {o : Option Nat} (ho : ∀ k, o = some k → k ≤ s.t.events.length) : AtP { s with hs := s.hs.set i o } :=
  ⟨fun j k hjk => by
    have hjk : (s.hs.set i o)[j]? = some (some k) := hjk
    rw [List.getElem?_set] at hjk
    split at hjk
    · split at hjk
      · injection hjk with e; exact ho k e
      · cases hjk
    · exact h.at_ j k hjk, h.ids⟩
theorem cell_le {s : PS} (h : AtP s) {o : Option Nat} (ho : ∀ k, o = some k → k ≤ s.t.events.length) : cellP s.t o ≤ 67 := by
  cases o with
  | none => exact Nat.zero_le _
  | some k =>
    unfold cellP idsAt
    simp only
    split
    · omega
    · have hk := ho k rfl
      have hi : k - 1 < s.t.events.length := by omega
      have := h.ids s.t.events[k - 1] (List.getElem_mem hi)
      simp only [List.getD_eq_getElem?_getD, List.getElem?_eq_getElem hi, Option.getD_some]
      omega
theorem cells_take (t : Tr) (hs : List (Option Nat)) {k : Nat} {o : Option Nat} (h : hs[k]? = some o) : cellsP t (hs.take (k + 1)) = cellsP t (hs.take k) + cellP t o := by
  unfold cellsP
  rw [List.take_add_one, h, List.map_append, List.sum_append]
  simp
theorem cells_le {s : PS} (h : AtP s) (k : Nat) : cellsP s.t (s.hs.take k) ≤ 67 * k := by
  induction k with
  | zero => simp [cellsP]
  | succ k ih =>
    by_cases hk : k < s.hs.length
    · have e := List.getElem?_eq_getElem hk
      rw [cells_take s.t s.hs e]
      have := cell_le h (o := s.hs[k]) (fun j hj => h.at_ k j (by rw [e, hj]))
      omega
    · rw [List.take_of_length_le (by omega)]
      rw [List.take_of_length_le (by omega)] at ih
      omega
end Go.Proofs.Ytimbbfneaaglbaa.Heads

namespace Go.Proofs.Ytimbbfneaaglbaa.Trace
open Go.RowKit Go.Proofs.Ytimbbfneaaglbaa.Ints Go.Proofs.Ytimbbfneaaglbaa.Mem

/-- What a call that hands back a trace leaves. -/
def GotTr (w : World) (t : Tr) (e : Ending) (w' : World) : Prop :=
  ∃ NA nn nc EA ne ec, e = .returned (.agg #[.slice NA nn nc, .slice EA ne ec]) ∧ TrOk Any w' NA nn nc EA ne ec t ∧ Below w.heap.size w w'
theorem TrOk.none (S : Nat → Prop) (w : World) : TrOk S w none 0 0 none 0 0 noTr :=
  ⟨rfl, rfl, Strs.nil _ _, fun s hs => by simp [noTr] at hs, Evs.nil _ _ _, ⟨Nat.le_refl _, by decide⟩, ⟨Nat.le_refl _, by decide⟩⟩
theorem TrOk.cut {S : Nat → Prop} {w : World} {NA EA : Option Addr} {nn nc ne ec : Nat} {t : Tr} (h : TrOk S w NA nn nc EA ne ec t) {k : Nat} (hk : k ≤ ne) : TrOk S w NA nn nc EA k ec ⟨t.names, t.events.take k⟩ :=
  ⟨h.1, by rw [List.length_take, h.2]; omega, h.3, h.4, h.5.take k, h.6, ⟨Nat.le_trans hk h.7.1, h.7.2⟩⟩
theorem below_two {w w1 : World} {o o' : Obj} (hb : Below ((w.alloc o).alloc o').heap.size ((w.alloc o).alloc o') w1) (u0 u1 : Value) :
    Below w.heap.size w ((w1.setCell ⟨w.heap.size + 1, 0, none⟩ u0).setCell ⟨w.heap.size + 1, 1, none⟩ u1) := by
  have h0 : Below w.heap.size w w1 := (((Below.refl _ w).alloc (Nat.le_refl _) o).alloc (by simp) o').trans (hb.mono (by simp; omega))
  exact (h0.setCell (p := ⟨w.heap.size + 1, 0, none⟩) (by show w.heap.size ≤ w.heap.size + 1; omega) u0).setCell (p := ⟨w.heap.size + 1, 1, none⟩) (by show w.heap.size ≤ w.heap.size + 1; omega) u1
theorem below_two1 {w w1 : World} {o o' : Obj} (hb : Below ((w.alloc o).alloc o').heap.size ((w.alloc o).alloc o') w1) : Below (w.heap.size + 1) (w.alloc o) w1 :=
  ((Below.refl _ (w.alloc o)).alloc (by simp) o').trans (hb.mono (by simp))

theorem sizeElemEvents : (Try.prog.info? (Try.prog.elem 28)).map (·.size) = some 2 := by kernel_rfl
theorem typeEvents : Try.prog.underlying 28 = some (.slice (Try.prog.elem 28)) := by kernel_rfl

theorem undrew1 {w w' : World} (hb : Below w.drew.heap.size w.drew w') : Below w.heap.size w w' := ((Below.refl _ w).drew).trans hb
theorem Evs.kids {S : Nat → Prop} {w : World} {A : Option Addr} {l : List Ev} (h : Evs S w A l) {k : Nat} (hk : k < l.length) :
    ∃ b off K c, A = some ⟨b, off, none⟩ ∧ w.cell? ⟨b, off + k * 2, none⟩ = some (.int .u64 (l.getD k noEv).time) ∧ w.cell? ⟨b, off + k * 2 + 1, none⟩ = some (.slice K (l.getD k noEv).ids.length c) ∧ EvOk w (l.getD k noEv) K c := by
  obtain ⟨b, off, e, hc⟩ := h (by omega)
  obtain ⟨x0, hw, K, c, x1, hK, hKc, hcK, -, -⟩ := hc k _ (List.getElem?_eq_getElem hk)
  have hg : l.getD k noEv = l[k] := by simp [List.getD, hk]
  rw [← hg] at x0 hw x1 hK hKc
  rw [Nat.mul_comm 2 k] at x0 x1
  exact ⟨b, off, K, c, e, x0, x1, hw, hK, hKc, hcK⟩
end Go.Proofs.Ytimbbfneaaglbaa.Trace

namespace Go.Proofs.Ytimbbfneaaglbaa.Mem
open Go.RowKit Go.Proofs.Ytimbbfneaaglbaa.Ints

/-! ### a block -/
/-- The block g begins with the cells vs. -/
def Blk (w : World) (g : Nat) (vs : List Value) : Prop := g < w.heap.size ∧ ∀ (k : Nat) (v : Value), vs[k]? = some v → w.cell? ⟨g, k, none⟩ = some v ∧ w.frozen? ⟨g, k, none⟩ = false
theorem Blk.cell {w : World} {g : Nat} {vs : List Value} (h : Blk w g vs) (k : Nat) {v : Value} (hv : vs[k]? = some v) : w.cell? ⟨g, k, none⟩ = some v := (h.2 k v hv).1
theorem Blk.fz {w : World} {g : Nat} {vs : List Value} (h : Blk w g vs) (k : Nat) {v : Value} (hv : vs[k]? = some v) : w.frozen? ⟨g, k, none⟩ = false := (h.2 k v hv).2
theorem Blk.same {w w' : World} {g : Nat} {vs : List Value} (h : Blk w g vs) (hs : w.heap.size ≤ w'.heap.size) (hb : w'.heap[g]? = w.heap[g]?) : Blk w' g vs :=
  ⟨Nat.lt_of_lt_of_le h.1 hs, fun k _ hv => ⟨(World.cell?_of_block (w := w) (a := ⟨g, k, none⟩) hb).trans (h.cell k hv), (World.frozen?_of_block (w := w) (a := ⟨g, k, none⟩) hb).trans (h.fz k hv)⟩⟩
theorem Blk.below {B : Nat} {w w' : World} {g : Nat} {vs : List Value} (h : Blk w g vs) (hb : Below B w w') (hg : g < B) : Blk w' g vs := h.same hb.size (hb.block g hg)
theorem Blk.later {w w' : World} {g : Nat} {vs : List Value} (h : Blk w g vs) (hb : Below w.heap.size w w') : Blk w' g vs := h.below hb h.1
theorem Blk.alloc {w : World} {g : Nat} {vs : List Value} (h : Blk w g vs) (o : Obj) : Blk (w.alloc o) g vs := h.later ((Below.refl _ _).alloc (Nat.le_refl _) _)
theorem Blk.grown {w w' : World} {g : Nat} {vs : List Value} {row : Option Nat} (h : Blk w g vs) (hg : w.grownBy w' row) (hne : some g ≠ row) : Blk w' g vs := h.same hg.size (hg.block g h.1 hne)
theorem Blk.set {w : World} {g : Nat} {vs : List Value} (h : Blk w g vs) (k : Nat) (u : Value) (hk : k < vs.length) : Blk (w.setCell ⟨g, k, none⟩ u) g (vs.set k u) := by
  refine ⟨by simpa using h.1, fun j v hv => ⟨?_, ?_⟩⟩
  · rw [List.getElem?_set] at hv
    by_cases e : k = j
    · subst e
      rw [if_pos rfl, if_pos hk] at hv
      cases hv
      exact World.cell?_setCell_same _ _ _ (h.cell k (List.getElem?_eq_getElem hk))
    · rw [if_neg e] at hv
      exact (World.cell?_setCell_other _ _ _ _ (fun e' => e (by injection e'))).trans (h.cell j hv)
  · rw [World.frozen?_setCell]
    rw [List.getElem?_set] at hv
    by_cases e : k = j
    · subst e
      exact h.fz k (List.getElem?_eq_getElem hk)
    · rw [if_neg e] at hv
      exact h.fz j hv
theorem Blk.other {w : World} {g : Nat} {vs : List Value} (h : Blk w g vs) (p : Addr) (u : Value) (hp : g ≠ p.block) : Blk (w.setCell p u) g vs := h.same (by simp) (Below.heap_setCell w p u g hp)
theorem Blk.drew {w : World} {g : Nat} {vs : List Value} (h : Blk w g vs) : Blk w.drew g vs := h
theorem Blk.drewN {w : World} {g : Nat} {vs : List Value} (h : Blk w g vs) (n : Nat) : Blk (w.drewN n) g vs := h
theorem Blk.new (w : World) (cs : Array Value) (T : TypeId) (vs : List Value) (hv : cs.toList = vs) : Blk (w.alloc (.cells cs T)) w.heap.size vs := by
  subst hv
  refine ⟨by simp, fun k v hk => ⟨?_, ?_⟩⟩
  · rw [cell_of_row _ w.heap.size k _ T (0, 0) (heap_alloc_new w _)]
    simpa using hk
  · exact World.frozen?_alloc_new _ _ _ _
end Go.Proofs.Ytimbbfneaaglbaa.Mem
