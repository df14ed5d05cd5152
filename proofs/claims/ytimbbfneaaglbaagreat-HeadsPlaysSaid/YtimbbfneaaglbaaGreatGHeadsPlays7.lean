/-
  A pool of heads, as plain lists (stage 13). By an AI agent.
  What a call that hands back a trace leaves; an event of a list. By an AI agent.
  A block of memory, cell by cell. By an AI agent.
  A source of bytes as plain lists: what a Read tells. A block of the reference's source. By an AI agent.
  The reference's pool of heads in memory (stage 13): what it holds, and what leaves it. By an AI agent.
-/
import Derived.Test.YtimbbfneaaglbaaGreatGHeadsPlays6
import Derived.Test.YtimbbfneaaglbaaGreatGHeadsPlays1
import Derived.Test.YtimbbfneaaglbaaGreatGHeadsPlays4
namespace Go.Proofs.YtimbbfneaaglbaaGreat.Heads
open Go.Proofs.YtimbbfneaaglbaaGreat.Ints Go.Proofs.YtimbbfneaaglbaaGreat.Trace Go.Proofs.YtimbbfneaaglbaaGreat.Record Go.Proofs.YtimbbfneaaglbaaGreat.Log

/-- A pool: what can be read, what is wrong behind it, how many heads may be open, how many records are before each open head, the greatest number of cells so far. -/
structure PS where
  t : Tr
  er : Nat
  size : Int
  hs : List (Option Nat)
  peak : Nat
def headP (hs : List (Option Nat)) (id : Int) : Option Nat := if id < 0 then none else hs.getD id.toNat none
def countP (hs : List (Option Nat)) : Nat := hs.countP Option.isSome
def idsAt (t : Tr) (k : Nat) : Nat := if k = 0 then 0 else (t.events.getD (k - 1) noEv).ids.length
def cellP (t : Tr) : Option Nat → Nat
  | none => 0
  | some k => 3 + idsAt t k
def cellsP (t : Tr) (hs : List (Option Nat)) : Nat := (hs.map (cellP t)).sum
def freeP (hs : List (Option Nat)) : Nat := hs.findIdx Option.isNone
def putP (hs : List (Option Nat)) (id : Nat) (k : Nat) : List (Option Nat) := if id < hs.length then hs.set id (some k) else hs ++ [some k]
def meterP (s : PS) : PS := { s with peak := max s.peak (cellsP s.t s.hs) }
/-- Another head: its id, what is wrong, the pool. -/
def addP (s : PS) (k : Nat) : Nat × Nat × PS := if (countP s.hs : Int) = s.size then (0, 12, s) else (freeP s.hs, 0, meterP { s with hs := putP s.hs (freeP s.hs) k })
def cloneP (s : PS) (id : Int) : Nat × Nat × PS := match headP s.hs id with
  | none => (0, 11, s)
  | some k => addP s k
def nextP (s : PS) (id : Int) : Ev × Nat × PS := match headP s.hs id with
  | none => (noEv, 11, s)
  | some k => if k < s.t.events.length then (s.t.events.getD k noEv, 0, meterP { s with hs := s.hs.set id.toNat (some (k + 1)) }) else (noEv, s.er, s)
def seekP (s : PS) (id k : Int) : Nat × PS := match headP s.hs id with
  | none => (11, s)
  | some _ => if k < 0 then (1, s) else if (s.t.events.length : Int) < k then (s.er, s) else (0, meterP { s with hs := s.hs.set id.toNat (some k.toNat) })
def closeP (s : PS) (id : Int) : Bool × PS := match headP s.hs id with
  | none => (false, s)
  | some _ => (true, { s with hs := s.hs.set id.toNat none })
/-- What holds of every pool. -/
structure OkP (s : PS) : Prop where
  at_ : ∀ (i k : Nat), s.hs[i]? = some (some k) → k ≤ s.t.events.length
  room : (countP s.hs : Int) ≤ s.size
  peak : cellsP s.t s.hs ≤ s.peak
  er : s.er ≠ 0 ∧ s.er ≤ 20
  ids : ∀ e ∈ s.t.events, e.ids.length ≤ 64
theorem head_some {hs : List (Option Nat)} {id : Int} {k : Nat} (h : headP hs id = some k) : 0 ≤ id ∧ id.toNat < hs.length ∧ hs[id.toNat]? = some (some k) := by
  unfold headP at h
  split at h
  · cases h
  · rw [List.getD_eq_getElem?_getD] at h
    cases hq : hs[id.toNat]? with
    | none => rw [hq] at h; cases h
    | some o =>
      rw [hq] at h
      have h : o = some k := h
      exact ⟨by omega, (List.getElem?_eq_some_iff.1 hq).1, by rw [h]⟩
theorem head_none {hs : List (Option Nat)} {id : Int} (h : headP hs id = none) : id < 0 ∨ hs.length ≤ id.toNat ∨ hs[id.toNat]? = some none := by
  unfold headP at h
  split at h
  · exact .inl (by assumption)
  · rw [List.getD_eq_getElem?_getD] at h
    cases hq : hs[id.toNat]? with
    | none => exact .inr (.inl (List.getElem?_eq_none_iff.1 hq))
    | some o =>
      rw [hq] at h
      have h : o = none := h
      exact .inr (.inr (by rw [h]))
theorem free_le (hs : List (Option Nat)) : freeP hs ≤ hs.length := List.findIdx_le_length
theorem count_le (hs : List (Option Nat)) : countP hs ≤ hs.length := List.countP_le_length
/-- The id that is free, when it is told. -/
theorem free_at {hs : List (Option Nat)} (h : freeP hs < hs.length) : hs[freeP hs]? = some none := by
  have h2 := List.findIdx_getElem (p := Option.isNone) (xs := hs) (w := h)
  rw [List.getElem?_eq_getElem h]
  congr 1
  exact Option.isNone_iff_eq_none.1 h2
theorem free_before {hs : List (Option Nat)} {i : Nat} (h : i < freeP hs) : ∃ k, hs[i]? = some (some k) := by
  have hi : i < hs.length := Nat.lt_of_lt_of_le h (free_le hs)
  have h2 := List.not_of_lt_findIdx (p := Option.isNone) (xs := hs) h
  rw [List.getElem?_eq_getElem hi]
  cases hq : hs[i] with
  | none => rw [hq] at h2; simp at h2
  | some k => exact ⟨k, rfl⟩
theorem sum_set (l : List Nat) (i : Nat) (x : Nat) (h : i < l.length) : (l.set i x).sum + l[i] = l.sum + x := by
  induction l generalizing i with
  | nil => simp at h
  | cons a l ih =>
    cases i with
    | zero => simp [List.sum_cons]; omega
    | succ i =>
      have := ih i (by simpa using h)
      simp [List.sum_cons]
      omega
theorem map_set_cells (t : Tr) (hs : List (Option Nat)) (i : Nat) (o : Option Nat) : (hs.set i o).map (cellP t) = (hs.map (cellP t)).set i (cellP t o) := by
  rw [List.map_set]
theorem cells_set {t : Tr} {hs : List (Option Nat)} {i : Nat} {o : Option Nat} (h : hs[i]? = some o) (o2 : Option Nat) : cellsP t (hs.set i o2) + cellP t o = cellsP t hs + cellP t o2 := by
  obtain ⟨hi, hio⟩ := List.getElem?_eq_some_iff.1 h
  unfold cellsP
  rw [map_set_cells]
  have := sum_set (hs.map (cellP t)) i (cellP t o2) (by simpa using hi)
  rw [List.getElem_map, hio] at this
  exact this
theorem count_sum (hs : List (Option Nat)) : countP hs = (hs.map fun o => if o.isSome then 1 else 0).sum := by
  unfold countP
  induction hs with
  | nil => rfl
  | cons o l ih =>
    rw [List.countP_cons, ih, List.map_cons, List.sum_cons]
    cases o <;> simp <;> omega
theorem count_set {hs : List (Option Nat)} {i : Nat} {o : Option Nat} (h : hs[i]? = some o) (o2 : Option Nat) : countP (hs.set i o2) + (if o.isSome then 1 else 0) = countP hs + (if o2.isSome then 1 else 0) := by
  obtain ⟨hi, hio⟩ := List.getElem?_eq_some_iff.1 h
  rw [count_sum, count_sum, List.map_set]
  have := sum_set (hs.map fun o => if o.isSome then 1 else 0) i (if o2.isSome then 1 else 0) (by simpa using hi)
  rw [List.getElem_map, hio] at this
  exact this
theorem put_at (hs : List (Option Nat)) (k i : Nat) : (putP hs (freeP hs) k)[i]? = if i = freeP hs then some (some k) else hs[i]? := by
  have hfl := free_le hs
  unfold putP
  split
  · rename_i h
    rw [List.getElem?_set]
    by_cases e : i = freeP hs
    · subst e; simp [h]
    · rw [if_neg (fun h => e h.symm), if_neg e]
  · have e : freeP hs = hs.length := by omega
    rw [e, List.getElem?_append]
    split
    · rw [if_neg (by omega)]
    · by_cases e2 : i = hs.length
      · subst e2; simp
      · rw [if_neg e2, List.getElem?_eq_none (by simp; omega), List.getElem?_eq_none (by omega)]
theorem count_put (hs : List (Option Nat)) (k : Nat) : countP (putP hs (freeP hs) k) = countP hs + 1 := by
  have hfl := free_le hs
  unfold putP
  split
  · rename_i h
    have := count_set (free_at h) (some k)
    simp at this
    exact this
  · unfold countP
    rw [List.countP_append]
    rfl
/-! ### what holds goes on -/
theorem OkP.meter {s : PS} (h1 : ∀ (i k : Nat), s.hs[i]? = some (some k) → k ≤ s.t.events.length) (h2 : (countP s.hs : Int) ≤ s.size) (h3 : s.er ≠ 0 ∧ s.er ≤ 20) (h4 : ∀ e ∈ s.t.events, e.ids.length ≤ 64) : OkP (meterP s) :=
  ⟨h1, h2, Nat.le_max_right _ _, h3, h4⟩
theorem OkP.add {s : PS} (h : OkP s) {k : Nat} (hk : k ≤ s.t.events.length) : OkP (addP s k).2.2 := by
  unfold addP
  split
  · exact h
  · rename_i hc
    have := h.room
    refine OkP.meter (fun i j hij => ?_) (by show (countP (putP s.hs (freeP s.hs) k) : Int) ≤ s.size; rw [count_put]; omega) h.er h.ids
    have hij : (putP s.hs (freeP s.hs) k)[i]? = some (some j) := hij
    rw [put_at] at hij
    split at hij
    · injection hij with e; injection e with e; subst e; exact hk
    · exact h.at_ i j hij
theorem OkP.clone {s : PS} (h : OkP s) (id : Int) : OkP (cloneP s id).2.2 := by
  unfold cloneP
  split
  · exact h
  · rename_i k hk
    exact h.add (h.at_ _ k (head_some hk).2.2)
theorem OkP.set {s : PS} (h : OkP s) {id : Int} {k : Nat} (hk : headP s.hs id = some k) (j : Nat) (hj : j ≤ s.t.events.length) : OkP (meterP { s with hs := s.hs.set id.toNat (some j) }) := by
  obtain ⟨h0, h1, h2⟩ := head_some hk
  refine OkP.meter (fun i m hm => ?_) ?_ h.er h.ids
  · have hm : (s.hs.set id.toNat (some j))[i]? = some (some m) := hm
    rw [List.getElem?_set] at hm
    split at hm
    · injection hm with e; injection e with e; subst e; exact hj
    · exact h.at_ i m hm
  · have h3 := count_set h2 (some j)
    have := h.room
    simp at h3
    show (countP (s.hs.set id.toNat (some j)) : Int) ≤ s.size
    omega
theorem OkP.next {s : PS} (h : OkP s) (id : Int) : OkP (nextP s id).2.2 := by
  unfold nextP
  split
  · exact h
  · rename_i k hk
    split
    · rename_i hlt
      exact h.set hk _ hlt
    · exact h
theorem OkP.seek {s : PS} (h : OkP s) (id k : Int) : OkP (seekP s id k).2 := by
  unfold seekP
  split
  · exact h
  · rename_i j hj
    split
    · exact h
    · split
      · exact h
      · exact h.set hj _ (by omega)
theorem OkP.close {s : PS} (h : OkP s) (id : Int) : OkP (closeP s id).2 := by
  unfold closeP
  split
  · exact h
  · rename_i k hk
    obtain ⟨h0, h1, h2⟩ := head_some hk
    have h3 := count_set h2 none
    have h4 := cells_set (t := s.t) h2 none
    have := h.room
    have := h.peak
    refine ⟨fun i m hm => ?_, ?_, ?_, h.er, h.ids⟩
    · have hm : (s.hs.set id.toNat none)[i]? = some (some m) := hm
      rw [List.getElem?_set] at hm
      split at hm
      · cases hm
      · exact h.at_ i m hm
    · simp at h3
      show (countP (s.hs.set id.toNat none) : Int) ≤ s.size
      omega
    · have h5 : cellP s.t none = 0 := rfl
      show cellsP s.t (s.hs.set id.toNat none) ≤ s.peak
      omega
theorem meter_id {s : PS} (h : OkP s) : meterP s = s := by
  unfold meterP
  rw [Nat.max_eq_left h.peak]
structure AtP (s : PS) : Prop where
  at_ : ∀ (i k : Nat), s.hs[i]? = some (some k) → k ≤ s.t.events.length
  ids : ∀ e ∈ s.t.events, e.ids.length ≤ 64
theorem OkP.atp {s : PS} (h : OkP s) : AtP s := ⟨h.at_, h.ids⟩
theorem AtP.put {s : PS} (h : AtP s) {k : Nat} (hk : k ≤ s.t.events.length) : AtP { s with hs := putP s.hs (freeP s.hs) k } :=
  ⟨fun i j hij => by
    have hij : (putP s.hs (freeP s.hs) k)[i]? = some (some j) := hij
    rw [put_at] at hij
    split at hij
    · injection hij with e; injection e with e; subst e; exact hk
    · exact h.at_ i j hij, h.ids⟩
theorem AtP.set {s : PS} (h : AtP s) (i : Nat) {o : Option Nat} (ho : ∀ k, o = some k → k ≤ s.t.events.length) : AtP { s with hs := s.hs.set i o } :=
  ⟨fun j k hjk => by
    have hjk : (s.hs.set i o)[j]? = some (some k) := hjk
    rw [List.getElem?_set] at hjk
    split at hjk
    · split at hjk
      · injection hjk with e; exact ho k e
      · cases hjk
    · exact h.at_ j k hjk, h.ids⟩
theorem cell_le {s : PS} (h : AtP s) {o : Option Nat} (ho : ∀ k, o = some k → k ≤ s.t.events.length) : cellP s.t o ≤ 67 := by
  cases o with
  | none => exact Nat.zero_le _
  | some k =>
    unfold cellP idsAt
    simp only
    split
    · omega
    · have hk := ho k rfl
      have hi : k - 1 < s.t.events.length := by omega
      have := h.ids s.t.events[k - 1] (List.getElem_mem hi)
      simp only [List.getD_eq_getElem?_getD, List.getElem?_eq_getElem hi, Option.getD_some]
      omega
theorem cells_take (t : Tr) (hs : List (Option Nat)) {k : Nat} {o : Option Nat} (h : hs[k]? = some o) : cellsP t (hs.take (k + 1)) = cellsP t (hs.take k) + cellP t o := by
  unfold cellsP
  rw [List.take_add_one, h, List.map_append, List.sum_append]
  simp
theorem cells_le {s : PS} (h : AtP s) (k : Nat) : cellsP s.t (s.hs.take k) ≤ 67 * k := by
  induction k with
  | zero => simp [cellsP]
  | succ k ih =>
    by_cases hk : k < s.hs.length
    · have e := List.getElem?_eq_getElem hk
      rw [cells_take s.t s.hs e]
      have := cell_le h (o := s.hs[k]) (fun j hj => h.at_ k j (by rw [e, hj]))
      omega
    · rw [List.take_of_length_le (by omega)]
      rw [List.take_of_length_le (by omega)] at ih
      omega
end Go.Proofs.YtimbbfneaaglbaaGreat.Heads

namespace Go.Proofs.YtimbbfneaaglbaaGreat.Trace
open Go.RowKit Go.Proofs.YtimbbfneaaglbaaGreat.Ints Go.Proofs.YtimbbfneaaglbaaGreat.Mem

/-- What a call that hands back a trace leaves. -/
def GotTr (w : World) (t : Tr) (e : Ending) (w' : World) : Prop :=
  ∃ NA nn nc EA ne ec, e = .returned (.agg #[.slice NA nn nc, .slice EA ne ec]) ∧ TrOk Any w' NA nn nc EA ne ec t ∧ Below w.heap.size w w'
theorem TrOk.none (S : Nat → Prop) (w : World) : TrOk S w none 0 0 none 0 0 noTr :=
  ⟨rfl, rfl, Strs.nil _ _, fun s hs => by simp [noTr] at hs, Evs.nil _ _ _, ⟨Nat.le_refl _, by decide⟩, ⟨Nat.le_refl _, by decide⟩⟩
theorem TrOk.cut {S : Nat → Prop} {w : World} {NA EA : Option Addr} {nn nc ne ec : Nat} {t : Tr} (h : TrOk S w NA nn nc EA ne ec t) {k : Nat} (hk : k ≤ ne) : TrOk S w NA nn nc EA k ec ⟨t.names, t.events.take k⟩ :=
  ⟨h.1, by rw [List.length_take, h.2]; omega, h.3, h.4, h.5.take k, h.6, ⟨Nat.le_trans hk h.7.1, h.7.2⟩⟩
theorem below_two {w w1 : World} {o o' : Obj} (hb : Below ((w.alloc o).alloc o').heap.size ((w.alloc o).alloc o') w1) (u0 u1 : Value) :
    Below w.heap.size w ((w1.setCell ⟨w.heap.size + 1, 0, none⟩ u0).setCell ⟨w.heap.size + 1, 1, none⟩ u1) := by
  have h0 : Below w.heap.size w w1 := (((Below.refl _ w).alloc (Nat.le_refl _) o).alloc (by simp) o').trans (hb.mono (by simp; omega))
  exact (h0.setCell (p := ⟨w.heap.size + 1, 0, none⟩) (by show w.heap.size ≤ w.heap.size + 1; omega) u0).setCell (p := ⟨w.heap.size + 1, 1, none⟩) (by show w.heap.size ≤ w.heap.size + 1; omega) u1
theorem below_two1 {w w1 : World} {o o' : Obj} (hb : Below ((w.alloc o).alloc o').heap.size ((w.alloc o).alloc o') w1) : Below (w.heap.size + 1) (w.alloc o) w1 :=
  ((Below.refl _ (w.alloc o)).alloc (by simp) o').trans (hb.mono (by simp))

theorem sizeElemEvents : (Tryz.prog.info? (Tryz.prog.elem 31)).map (·.size) = some 2 := by kernel_rfl
theorem typeEvents : Tryz.prog.underlying 31 = some (.slice (Tryz.prog.elem 31)) := by kernel_rfl

theorem undrew1 {w w' : World} (hb : Below w.drew.heap.size w.drew w') : Below w.heap.size w w' := ((Below.refl _ w).drew).trans hb
theorem Evs.kids {S : Nat → Prop} {w : World} {A : Option Addr} {l : List Ev} (h : Evs S w A l) {k : Nat} (hk : k < l.length) :
    ∃ b off K c, A = some ⟨b, off, none⟩ ∧ w.cell? ⟨b, off + k * 2, none⟩ = some (.int .u64 (l.getD k noEv).time) ∧ w.cell? ⟨b, off + k * 2 + 1, none⟩ = some (.slice K (l.getD k noEv).ids.length c) ∧ EvOk w (l.getD k noEv) K c := by
  obtain ⟨b, off, e, hc⟩ := h (by omega)
  obtain ⟨x0, hw, K, c, x1, hK, hKc, hcK, -, -⟩ := hc k _ (List.getElem?_eq_getElem hk)
  have hg : l.getD k noEv = l[k] := by simp [List.getD, hk]
  rw [← hg] at x0 hw x1 hK hKc
  rw [Nat.mul_comm 2 k] at x0 x1
  exact ⟨b, off, K, c, e, x0, x1, hw, hK, hKc, hcK⟩
end Go.Proofs.YtimbbfneaaglbaaGreat.Trace

namespace Go.Proofs.YtimbbfneaaglbaaGreat.Mem
open Go.RowKit Go.Proofs.YtimbbfneaaglbaaGreat.Ints

/-! ### a block -/
/-- The block g begins with the cells vs. -/
def Blk (w : World) (g : Nat) (vs : List Value) : Prop := g < w.heap.size ∧ ∀ (k : Nat) (v : Value), vs[k]? = some v → w.cell? ⟨g, k, none⟩ = some v ∧ w.frozen? ⟨g, k, none⟩ = false
theorem Blk.cell {w : World} {g : Nat} {vs : List Value} (h : Blk w g vs) (k : Nat) {v : Value} (hv : vs[k]? = some v) : w.cell? ⟨g, k, none⟩ = some v := (h.2 k v hv).1
theorem Blk.fz {w : World} {g : Nat} {vs : List Value} (h : Blk w g vs) (k : Nat) {v : Value} (hv : vs[k]? = some v) : w.frozen? ⟨g, k, none⟩ = false := (h.2 k v hv).2
theorem Blk.same {w w' : World} {g : Nat} {vs : List Value} (h : Blk w g vs) (hs : w.heap.size ≤ w'.heap.size) (hb : w'.heap[g]? = w.heap[g]?) : Blk w' g vs :=
  ⟨Nat.lt_of_lt_of_le h.1 hs, fun k _ hv => ⟨(World.cell?_of_block (w := w) (a := ⟨g, k, none⟩) hb).trans (h.cell k hv), (World.frozen?_of_block (w := w) (a := ⟨g, k, none⟩) hb).trans (h.fz k hv)⟩⟩
theorem Blk.below {B : Nat} {w w' : World} {g : Nat} {vs : List Value} (h : Blk w g vs) (hb : Below B w w') (hg : g < B) : Blk w' g vs := h.same hb.size (hb.block g hg)
theorem Blk.later {w w' : World} {g : Nat} {vs : List Value} (h : Blk w g vs) (hb : Below w.heap.size w w') : Blk w' g vs := h.below hb h.1
theorem Blk.alloc {w : World} {g : Nat} {vs : List Value} (h : Blk w g vs) (o : Obj) : Blk (w.alloc o) g vs := h.later ((Below.refl _ _).alloc (Nat.le_refl _) _)
theorem Blk.grown {w w' : World} {g : Nat} {vs : List Value} {row : Option Nat} (h : Blk w g vs) (hg : w.grownBy w' row) (hne : some g ≠ row) : Blk w' g vs := h.same hg.size (hg.block g h.1 hne)
theorem Blk.set {w : World} {g : Nat} {vs : List Value} (h : Blk w g vs) (k : Nat) (u : Value) (hk : k < vs.length) : Blk (w.setCell ⟨g, k, none⟩ u) g (vs.set k u) := by
  refine ⟨by simpa using h.1, fun j v hv => ⟨?_, ?_⟩⟩
  · rw [List.getElem?_set] at hv
    by_cases e : k = j
    · subst e
      rw [if_pos rfl, if_pos hk] at hv
      cases hv
      exact World.cell?_setCell_same _ _ _ (h.cell k (List.getElem?_eq_getElem hk))
    · rw [if_neg e] at hv
      exact (World.cell?_setCell_other _ _ _ _ (fun e' => e (by injection e'))).trans (h.cell j hv)
  · rw [World.frozen?_setCell]
    rw [List.getElem?_set] at hv
    by_cases e : k = j
    · subst e
      exact h.fz k (List.getElem?_eq_getElem hk)
    · rw [if_neg e] at hv
      exact h.fz j hv
theorem Blk.other {w : World} {g : Nat} {vs : List Value} (h : Blk w g vs) (p : Addr) (u : Value) (hp : g ≠ p.block) : Blk (w.setCell p u) g vs := h.same (by simp) (Below.heap_setCell w p u g hp)
theorem Blk.drew {w : World} {g : Nat} {vs : List Value} (h : Blk w g vs) : Blk w.drew g vs := h
theorem Blk.drewN {w : World} {g : Nat} {vs : List Value} (h : Blk w g vs) (n : Nat) : Blk (w.drewN n) g vs := h
theorem Blk.new (w : World) (cs : Array Value) (T : TypeId) (vs : List Value) (hv : cs.toList = vs) : Blk (w.alloc (.cells cs T)) w.heap.size vs := by
  subst hv
  refine ⟨by simp, fun k v hk => ⟨?_, ?_⟩⟩
  · rw [cell_of_row _ w.heap.size k _ T (0, 0) (heap_alloc_new w _)]
    simpa using hk
  · exact World.frozen?_alloc_new _ _ _ _
end Go.Proofs.YtimbbfneaaglbaaGreat.Mem

namespace Go.Proofs.YtimbbfneaaglbaaGreat.Src
open Go.RowKit Go.Proofs.YtimbbfneaaglbaaGreat.Ints Go.Proofs.YtimbbfneaaglbaaGreat.Mem

/-- From where on bytes can't be read: the length, if there is no fault. -/
def faultP (n : Nat) (fault : Int) : Nat := if fault < 0 ∨ (n : Int) < fault then n else fault.toNat
theorem fault_le (n : Nat) (fault : Int) : faultP n fault ≤ n := by unfold faultP; split <;> omega
/-- A Read's error. -/
def readE (n f : Nat) (p most : Int) : Nat := if p < 0 ∨ most < 1 then 1 else if (n : Int) ≤ p then 13 else if (f : Int) ≤ p then 10 else 0
/-- The script's limit. -/
def limI (sc : List Int) (N : Nat) (m : Int) : Int := if N < sc.length then min m (max 1 (sc[N]?.getD 0)) else m
def readK (f : Nat) (sc : List Int) (N : Nat) (p most : Int) : Nat := (limI sc N (min most ((f : Int) - p))).toNat
/-- What a Read tells. -/
def readL (bs : List Int) (f : Nat) (sc : List Int) (N : Nat) (p most : Int) : List Int := if readE bs.length f p most = 0 then (bs.drop p.toNat).take (readK f sc N p most) else []
/-- How many Reads told bytes, behind it. -/
def readN (n f N : Nat) (p most : Int) : Nat := if readE n f p most = 0 then N + 1 else N
theorem read_zero {n f : Nat} {p most : Int} (h : readE n f p most = 0) : 0 ≤ p ∧ 1 ≤ most ∧ p < n ∧ p < f := by
  unfold readE at h
  split at h
  · exact absurd h (by decide)
  · split at h
    · exact absurd h (by decide)
    · split at h
      · exact absurd h (by decide)
      · omega
theorem lim_bd (sc : List Int) (N : Nat) {m : Int} (hm : 1 ≤ m) : 1 ≤ limI sc N m ∧ limI sc N m ≤ m := by unfold limI; split <;> omega
theorem readK_bd {n f : Nat} (sc : List Int) (N : Nat) {p most : Int} (_hf : f ≤ n) (h : readE n f p most = 0) : 1 ≤ readK f sc N p most ∧ p.toNat + readK f sc N p most ≤ f ∧ (readK f sc N p most : Int) = limI sc N (min most ((f : Int) - p)) ∧ (readK f sc N p most : Int) ≤ most := by
  obtain ⟨h1, h2, h3, h4⟩ := read_zero h
  have := lim_bd sc N (m := min most ((f : Int) - p)) (by omega)
  unfold readK
  omega
theorem readL_len {bs : List Int} {f : Nat} (sc : List Int) (N : Nat) {p most : Int} (hf : f ≤ bs.length) (h : readE bs.length f p most = 0) : (readL bs f sc N p most).length = readK f sc N p most := by
  have := readK_bd sc N hf h
  unfold readL
  rw [if_pos h, List.length_take, List.length_drop]
  omega
theorem readL_none {bs : List Int} {f : Nat} {sc : List Int} {N : Nat} {p most : Int} (h : readE bs.length f p most ≠ 0) : readL bs f sc N p most = [] := by unfold readL; rw [if_neg h]
theorem readL_bytes {bs : List Int} {f : Nat} {sc : List Int} {N : Nat} {p most : Int} (hb : ∀ z ∈ bs, (Lit.int .u8 z).wf = true) : ∀ z ∈ readL bs f sc N p most, (Lit.int .u8 z).wf = true := by
  intro z hz
  unfold readL at hz
  split at hz
  · exact hb z (List.mem_of_mem_drop (List.mem_of_mem_take hz))
  · cases hz

theorem rd_grown {k : IntKind} {w w' : World} {A : Option Addr} {n : Nat} {zs : List Int} {row : Option Nat} (h : Rd k w A n zs) (hg : w.grownBy w' row) (hne : ∀ a, A = some a → 0 < n → some a.block ≠ row) : Rd k w' A n zs := by
  rcases Nat.eq_zero_or_pos n with h0 | h0
  · subst h0
    rw [List.eq_nil_of_length_eq_zero h.len]
    exact Rd.nil _ _ _
  · exact h.grown hg (fun a e => hne a e h0)
theorem rd_lt {k : IntKind} {w : World} {A : Option Addr} {n : Nat} {zs : List Int} (h : Rd k w A n zs) : ∀ a, A = some a → 0 < n → a.block < w.heap.size := by
  intro a e h0
  obtain ⟨b, off, e2, hc⟩ := h.cell h0
  rw [e] at e2
  injection e2 with e2
  subst e2
  exact World.block_lt_of_cell? w _ (hc 0 h0)
/-- A source of four cells in the block g: bytes, script, fault, how many Reads told bytes; what the first two read as lies in blocks of S. -/
structure Src4 (S : Nat → Prop) (w : World) (g : Nat) (bs sc : List Int) (f N : Nat) : Prop where
  ex : ∃ A c B d, Blk w g [.slice A bs.length c, .slice B sc.length d, .int .i64 (f : Nat), .int .i64 (N : Nat)] ∧ Rd .u8 w A bs.length bs ∧ bs.length ≤ c ∧ c ≤ maxLen ∧ Rd .i64 w B sc.length sc ∧ sc.length ≤ maxLen ∧
    (∀ a, A = some a → 0 < bs.length → S a.block) ∧ (∀ a, B = some a → 0 < sc.length → S a.block)
  ne : ¬ S g
  le : f ≤ bs.length
theorem Src4.lt {S : Nat → Prop} {w : World} {g : Nat} {bs sc : List Int} {f N : Nat} (h : Src4 S w g bs sc f N) : g < w.heap.size := by
  obtain ⟨A, c, B, d, h1, -⟩ := h.ex
  exact h1.1
theorem Src4.kept {S : Nat → Prop} {w w' : World} {g : Nat} {bs sc : List Int} {f N : Nat} {row : Option Nat} (h : Src4 S w g bs sc f N) (hg : w.grownBy w' row) (hne : some g ≠ row) (hS : ∀ b, S b → some b ≠ row) : Src4 S w' g bs sc f N := by
  obtain ⟨A, c, B, d, h1, h2, h3, h4, h5, h6, h7, h8⟩ := h.ex
  exact ⟨⟨A, c, B, d, h1.grown hg hne, rd_grown h2 hg (fun a e h0 => hS _ (h7 a e h0)), h3, h4, rd_grown h5 hg (fun a e h0 => hS _ (h8 a e h0)), h6, h7, h8⟩, h.ne, h.le⟩
theorem Src4.below {S : Nat → Prop} {w w' : World} {g : Nat} {bs sc : List Int} {f N : Nat} (h : Src4 S w g bs sc f N) (hb : Below w.heap.size w w') : Src4 S w' g bs sc f N := by
  obtain ⟨A, c, B, d, h1, h2, h3, h4, h5, h6, h7, h8⟩ := h.ex
  exact ⟨⟨A, c, B, d, h1.later hb, h2.below hb, h3, h4, h5.below hb, h6, h7, h8⟩, h.ne, h.le⟩
theorem Src4.mono {S S' : Nat → Prop} {w : World} {g : Nat} {bs sc : List Int} {f N : Nat} (h : Src4 S w g bs sc f N) (hs : ∀ b, S b → S' b) (hg : ¬ S' g) : Src4 S' w g bs sc f N := by
  obtain ⟨A, c, B, d, h1, h2, h3, h4, h5, h6, h7, h8⟩ := h.ex
  exact ⟨⟨A, c, B, d, h1, h2, h3, h4, h5, h6, fun a e h0 => hs _ (h7 a e h0), fun a e h0 => hs _ (h8 a e h0)⟩, hg, h.le⟩
theorem grown_cell (w : World) (p : Addr) (u : Value) : w.grownBy (w.setCell p u) (some p.block) :=
  ⟨rfl, rfl, rfl, by simp [World.setCell], fun k _ hne => Below.heap_setCell w p u k (fun e => hne (by rw [e]))⟩
theorem grown_trans {w w1 w2 : World} {row : Option Nat} (h : w.grownBy w1 row) (k : w1.grownBy w2 row) : w.grownBy w2 row :=
  ⟨k.os.trans h.os, k.tape.trans h.tape, k.output.trans h.output, Nat.le_trans h.size k.size, fun b hb hne => (k.block b (Nat.lt_of_lt_of_le hb h.size) hne).trans (h.block b hb hne)⟩
theorem grown_below {w w' : World} (h : Below w.heap.size w w') (row : Option Nat) : w.grownBy w' row := ⟨h.os, h.tape, h.output, h.size, fun b hb _ => h.block b hb⟩
theorem below_grown {B : Nat} {w w' : World} {g : Nat} (h : w.grownBy w' (some g)) (hB : B ≤ w.heap.size) (hg : B ≤ g) : Below B w w' := ⟨h.os, h.tape, h.output, h.size, fun b hb => h.block b (by omega) (fun e => by injection e with e; omega)⟩
/-- One Read more. -/
theorem Src4.step {S : Nat → Prop} {w : World} {g : Nat} {bs sc : List Int} {f N : Nat} (h : Src4 S w g bs sc f N) : Src4 S (w.setCell ⟨g, 3, none⟩ (.int .i64 ((N : Int) + 1))) g bs sc f (N + 1) := by
  obtain ⟨A, c, B, d, h1, h2, h3, h4, h5, h6, h7, h8⟩ := h.ex
  have hgr := grown_cell w ⟨g, 3, none⟩ (.int .i64 ((N : Int) + 1))
  have off : ∀ a : Addr, S a.block → some a.block ≠ some g := fun a ha e => by
    injection e with e
    rw [e] at ha
    exact h.ne ha
  have hst := h1.set 3 (.int .i64 ((N : Int) + 1)) (by simp)
  refine ⟨⟨A, c, B, d, ?_, rd_grown h2 hgr (fun a e h0 => off a (h7 a e h0)), h3, h4, rd_grown h5 hgr (fun a e h0 => off a (h8 a e h0)), h6, h7, h8⟩, h.ne, h.le⟩
  have e : ((N + 1 : Nat) : Int) = (N : Int) + 1 := by omega
  rw [e]
  simpa using hst
theorem slice_midB {P : Program} (t : TypeId) (ht : P.underlying t = some (.slice (P.elem t))) (size : Nat) (hs : (P.info? (P.elem t)).map (·.size) = some size) (A : Option Addr) (n cap k m : Nat) (hk : k ≤ m) (hm : m ≤ cap) (W : World) :
    (Instr.slice t (.slice A n cap) (some (.int .i64 (k : Int))) (some (.int .i64 (m : Int))) none).run P W = .ok (.slice (fromAddr A cap k size) (m - k) (cap - k)) W := by
  rw [run_slice_lh W t A n cap ht .i64 .i64 (k : Int) (m : Int) (by omega) (by omega) (by omega)]
  obtain ⟨i, hi, hz⟩ := Option.map_eq_some_iff.1 hs
  simp [sizeOf, typeInfo, hi, hz, Result.andThen, sliced, fromAddr]
/-- Bytes from a place on, wherever they stand. -/
theorem rd_fromB {w : World} {A : Option Addr} {n c p : Nat} {zs : List Int} (h : Rd .u8 w A n zs) (hnc : n ≤ c) (hp : p ≤ n) (hn : 0 < n) : Rd .u8 w (fromAddr A c p 1) (n - p) (zs.drop p) ∧ ∀ a, fromAddr A c p 1 = some a → ∃ a', A = some a' ∧ a.block = a'.block := by
  obtain ⟨b, off, rfl, -⟩ := h.cell hn
  have hd := h.drop hp
  unfold fromAddr
  split
  · have e : n - p = 0 := by omega
    rw [e] at hd ⊢
    rw [List.eq_nil_of_length_eq_zero hd.len]
    exact ⟨Rd.nil _ _ _, fun a h => ⟨_, rfl, by cases h; rfl⟩⟩
  · have e : (⟨b, off, none⟩ : Addr).add (p * 1) = ⟨b, off + p, none⟩ := by unfold Addr.add; split <;> simp_all
    refine ⟨?_, fun a h => ⟨_, rfl, by rw [← Option.some.inj h]; show ((⟨b, off, none⟩ : Addr).add (p * 1)).block = b; rw [e]⟩⟩
    show Rd .u8 w (some ((⟨b, off, none⟩ : Addr).add (p * 1))) _ _
    rw [e]
    exact hd
end Go.Proofs.YtimbbfneaaglbaaGreat.Src

namespace Go.Proofs.YtimbbfneaaglbaaGreat.Heads
open Go.RowKit Go.Proofs.YtimbbfneaaglbaaGreat.Ints Go.Proofs.YtimbbfneaaglbaaGreat.Mem Go.Proofs.YtimbbfneaaglbaaGreat.Trace Go.Proofs.YtimbbfneaaglbaaGreat.Record Go.Proofs.YtimbbfneaaglbaaGreat.Log Go.Proofs.YtimbbfneaaglbaaGreat.Src

/-- Only blocks of D are stored into. -/
structure Left (D : Nat → Prop) (w w' : World) : Prop where
  os : w'.os = w.os
  tape : w'.tape = w.tape
  output : w'.output = w.output
  size : w.heap.size ≤ w'.heap.size
  block : ∀ q, q < w.heap.size → ¬ D q → w'.heap[q]? = w.heap[q]?
theorem Left.refl (D : Nat → Prop) (w : World) : Left D w w := ⟨rfl, rfl, rfl, Nat.le_refl _, fun _ _ _ => rfl⟩
theorem Left.trans {D D1 : Nat → Prop} {w w1 w2 : World} (h : Left D w w1) (h2 : Left D1 w1 w2) (hd : ∀ q, D1 q → D q ∨ w.heap.size ≤ q) : Left D w w2 :=
  ⟨h2.os.trans h.os, h2.tape.trans h.tape, h2.output.trans h.output, Nat.le_trans h.size h2.size, fun q hq hn => (h2.block q (Nat.lt_of_lt_of_le hq h.size) (fun e => (hd q e).elim hn (fun e => by omega))).trans (h.block q hq hn)⟩
theorem Left.of_below {D : Nat → Prop} {w w' : World} (h : Below w.heap.size w w') : Left D w w' := ⟨h.os, h.tape, h.output, h.size, fun q hq _ => h.block q hq⟩
theorem Left.of_grown {D : Nat → Prop} {w w' : World} {row : Option Nat} (h : w.grownBy w' row) (hd : ∀ q, row = some q → D q) : Left D w w' := ⟨h.os, h.tape, h.output, h.size, fun q hq hn => h.block q hq (fun e => hn (hd q e.symm))⟩
theorem Left.below {D : Nat → Prop} {B : Nat} {w w' : World} (h : Left D w w') (hd : ∀ q, D q → B ≤ q) (hB : B ≤ w.heap.size) : Below B w w' := ⟨h.os, h.tape, h.output, h.size, fun q hq => h.block q (by omega) (fun e => by have := hd q e; omega)⟩
theorem own_at {w w' : World} {base : Nat} {e : TypeId} {size : Nat} {v : Value} {n : Nat} {xs : List Value} (h : w.ownsRow base e size v n xs) (hk : ∀ q, v.ownBlock = some q → w'.heap[q]? = w.heap[q]?) : w'.ownsRow base e size v n xs := by
  refine ⟨h.1, ?_⟩
  rcases h.2 with h2 | ⟨g, cap, cur, rfl, h4, h5, h6⟩
  · exact .inl h2
  · exact .inr ⟨g, cap, cur, rfl, h4, (hk g rfl).trans h5, h6⟩
theorem strs_at {w w' : World} {A : Option Addr} {l : List (List UInt8)} (h : Strs w A l) (hk : ∀ a, A = some a → 0 < l.length → w'.heap[a.block]? = w.heap[a.block]?) : Strs w' A l := fun h0 => by
  obtain ⟨b, off, h1, h2⟩ := h h0
  exact ⟨b, off, h1, fun j s hs => (World.cell?_of_block (a := ⟨b, off + j, none⟩) (hk ⟨b, off, none⟩ h1 h0)).trans (h2 j s hs)⟩
/-- Rows of bools and rows of ints are apart. -/
theorem bools_apart {w : World} {B C n m : Nat} {v u : Value} {xs ys : List Value} (h : w.ownsRow B 4 1 v n xs) (h2 : w.ownsRow C 3 1 u m ys) (q : Nat) (hv : v.ownBlock = some q) : u.ownBlock ≠ some q := by
  intro hu
  rcases h.2 with ⟨rfl, -⟩ | ⟨g, c, cur, rfl, -, hq, -⟩
  · cases hv
  rcases h2.2 with ⟨rfl, -⟩ | ⟨g2, c2, cur2, rfl, -, hq2, -⟩
  · cases hu
  simp only [Value.ownBlock, Option.some.injEq] at hv hu
  subst hv
  subst hu
  rw [hq] at hq2
  injection hq2 with hq2
  injection hq2 with _ e _
  cases e
/-- The reference's pool, in the block g; all that it holds lies in blocks of D. -/
structure RP (w : World) (g : Nat) (D : Nat → Prop) (s : PS) : Prop where
  ex : ∃ NA nn nc EA ne ec v1 v2 ats, Blk w g [.slice NA nn nc, .slice EA ne ec, .int .i64 (s.er : Nat), .int .i64 s.size, v1, v2, .int .i64 (s.peak : Nat)] ∧
    TrOk (fun q => D q ∧ q < g) w NA nn nc EA ne ec s.t ∧ (∀ a, NA = some a → 0 < s.t.names.length → D a.block ∧ a.block < g) ∧
    w.ownsRow (g + 1) 4 1 v1 s.hs.length (s.hs.map fun o => Value.bool o.isSome) ∧ w.ownsRow (g + 1) 3 1 v2 s.hs.length (List.map (Value.int .i64) ats) ∧
    (∀ (i k : Nat), s.hs[i]? = some (some k) → ats[i]? = some (k : Int)) ∧ (∀ q, v1.ownBlock = some q → D q) ∧ (∀ q, v2.ownBlock = some q → D q)
  dg : D g
  lt : ∀ q, D q → q < w.heap.size
theorem RP.keep {w w' : World} {g : Nat} {D : Nat → Prop} {s : PS} (h : RP w g D s) (hk : ∀ q, D q → w'.heap[q]? = w.heap[q]?) (hs : w.heap.size ≤ w'.heap.size) : RP w' g D s := by
  obtain ⟨NA, nn, nc, EA, ne, ec, v1, v2, ats, h1, h2, h3, h4, h5, h6, h7, h8⟩ := h.ex
  refine ⟨⟨NA, nn, nc, EA, ne, ec, v1, v2, ats, h1.same hs (hk g h.dg), ?_, h3, own_at h4 (fun q hq => hk q (h7 q hq)), own_at h5 (fun q hq => hk q (h8 q hq)), h6, h7, h8⟩, h.dg, fun q hq => Nat.lt_of_lt_of_le (h.lt q hq) hs⟩
  exact ⟨h2.1, h2.2, strs_at h2.3 (fun a e h0 => hk _ (h3 a e h0).1), h2.4, h2.5.keep (fun p u hp hu => by rw [World.cell?_of_block (hk _ hp.1)]; exact hu), h2.6, h2.7⟩
theorem RP.below {w w' : World} {g : Nat} {D : Nat → Prop} {s : PS} (h : RP w g D s) (hb : Below w.heap.size w w') : RP w' g D s := h.keep (fun q hq => hb.block q (h.lt q hq)) hb.size
theorem RP.left {w w' : World} {g : Nat} {D D1 : Nat → Prop} {s : PS} (h : RP w g D s) (hl : Left D1 w w') (hd : ∀ q, D q → ¬ D1 q) : RP w' g D s := h.keep (fun q hq => hl.block q (h.lt q hq) (hd q hq)) hl.size
/-- What a call on the reference's pool leaves. -/
def Turn (w w' : World) (g : Nat) (D : Nat → Prop) (s : PS) : Prop := ∃ D', RP w' g D' s ∧ (∀ q, D' q → D q ∨ w.heap.size ≤ q) ∧ Left D w w'
theorem Turn.refl {w : World} {g : Nat} {D : Nat → Prop} {s : PS} (h : RP w g D s) : Turn w w g D s := ⟨D, h, fun _ e => .inl e, Left.refl _ _⟩
theorem Turn.trans {w w1 w2 : World} {g : Nat} {D : Nat → Prop} {s s2 : PS} (h : Turn w w1 g D s) (h2 : ∀ D', RP w1 g D' s → Turn w1 w2 g D' s2) : Turn w w2 g D s2 := by
  obtain ⟨D', h1, h3, h4⟩ := h
  obtain ⟨D2, g1, g3, g4⟩ := h2 D' h1
  refine ⟨D2, g1, fun q hq => ?_, h4.trans g4 h3⟩
  rcases g3 q hq with e | e
  · exact h3 q e
  · exact .inr (Nat.le_trans h4.size e)
theorem Turn.below {w w1 w2 : World} {g : Nat} {D : Nat → Prop} {s : PS} (h : Turn w w1 g D s) (hb : Below w1.heap.size w1 w2) : Turn w w2 g D s :=
  h.trans fun D' h1 => ⟨D', h1.below hb, fun _ e => .inl e, Left.of_below hb⟩
theorem Turn.step {w w1 w2 : World} {g : Nat} {D D1 : Nat → Prop} {s : PS} (hd : ∀ q, D1 q → D q ∨ w.heap.size ≤ q) (hl : Left D w w1) (h : Turn w1 w2 g D1 s) : Turn w w2 g D s := by
  obtain ⟨D2, g1, g3, g4⟩ := h
  refine ⟨D2, g1, fun q hq => ?_, hl.trans g4 hd⟩
  rcases g3 q hq with e | e
  · exact hd q e
  · exact .inr (Nat.le_trans hl.size e)
theorem Turn.ahead {w w1 w2 : World} {g : Nat} {D : Nat → Prop} {s : PS} (hl : Left D w w1) (h : Turn w1 w2 g D s) : Turn w w2 g D s := h.step (fun _ e => .inl e) hl
end Go.Proofs.YtimbbfneaaglbaaGreat.Heads
