/-
  Ways of a regular expression, told by the kinds and kids of its nodes (stage 14). By an AI agent.
  What walks over memory share, whatever the program: fields of structs that came in, cells behind later blocks, parts of slices, a block cell by cell, strings in rows. By an AI agent.
  A block of memory, cell by cell. By an AI agent.
  A source of bytes as plain lists: what a Read tells. A block of the reference's source. By an AI agent.
  Tables of bools in memory (stage 14): rows of their own; the walk of the reference's square. By an AI agent.
  Rows of bools and of stretches of points (stage 15): not, counted, some, all, each. By an AI agent.
  The landed counted, some, all (stage 15): at how many points before one a formula holds; stretches of points. By an AI agent.
-/
import Derived.Test.YtdbgaccnejffpaaGreatDoorGSatDual1
import Derived.Test.YtdbgaccnejffpaaGreatDoorChecked
import Derived.WalkKit
import Derived.WalkSpells
import Derived.Below
import Derived.Lib.Hide
import Derived.Deep.Slices
import Derived.Deep.Fields
import Derived.ChangeSame
import Derived.ChangeArms
import Derived.ChangeSlices
import Derived.IntWalk
import Derived.Deep.QuietTactic
import Derived.BigQuiet
import Derived.Maps.AppendAt
import Derived.Laws.AppendOwnNone
import Derived.OwnWalk
import Derived.Shelf.Abstract
namespace Go.Proofs.YtdbgaccnejffpaaGreatDoor.Paths
structure Rx where
 kd : Nat → Int
 k0 : Nat → Nat
 k1 : Nat → Nat
 h : Nat → Nat → Bool
def wayP (r : Rx) (n : Nat) : Nat → Nat → Nat → Nat → Prop
 | 0, _, _, _ => False
 | f + 1, at_, i, j => i < n ∧ j < n ∧
  if r.kd at_ = 18 then j = i + 1 else if r.kd at_ = 19 then j = i ∧ r.h at_ i = true
  else if r.kd at_ = 20 then wayP r n f (r.k0 at_) i j ∨ wayP r n f (r.k1 at_) i j
  else if r.kd at_ = 21 then ∃ k, wayP r n f (r.k0 at_) i k ∧ wayP r n f (r.k1 at_) k j
  else if r.kd at_ = 22 then Chain (wayP r n f (r.k0 at_)) i j else False
def reachT (r : Rx) (n : Nat) : Nat → Nat → Tb
 | 0, _ => fun _ _ => false
 | f + 1, at_ =>
  if r.kd at_ = 18 then fun i j => decide (j = i + 1) else if r.kd at_ = 19 then fun i j => decide (j = i) && r.h at_ i
  else if r.kd at_ = 20 then altT (reachT r n f (r.k0 at_)) (reachT r n f (r.k1 at_))
  else if r.kd at_ = 21 then prodT n (reachT r n f (r.k0 at_)) (reachT r n f (r.k1 at_))
  else if r.kd at_ = 22 then sqT n n 1 (idT (reachT r n f (r.k0 at_))) else fun _ _ => false
theorem way_on (r : Rx) (n f at_ : Nat) : On n (wayP r n f at_) := fun i j h => by
 cases f with
 | zero => exact h.elim
 | succ f => exact ⟨h.1, h.2.1⟩
theorem way_le (r : Rx) (n : Nat) : ∀ f at_ i j, wayP r n f at_ i j → i ≤ j := by
 intro f
 induction f with
 | zero => intro at_ i j h; exact h.elim
 | succ f ih =>
  intro at_ i j h
  have h := h.2.2
  split at h
  ·omega
  ·split at h
   ·omega
   ·split at h
    ·exact h.elim (ih _ i j) (ih _ i j)
    ·split at h
     ·obtain ⟨k, h1, h2⟩ := h
      exact Nat.le_trans (ih _ i k h1) (ih _ k j h2)
     ·split at h
      ·exact chain_le (ih _) h
      ·exact h.elim
theorem two_pow_big (n : Nat) : n < 2 ^ n := Nat.lt_two_pow_self
theorem reach_tells (r : Rx) (n : Nat) : ∀ f at_, Tells n (reachT r n f at_) (wayP r n f at_) := by
 intro f
 induction f with
 | zero => intro at_ i j _ _; exact ⟨fun h => (by cases h), fun h => h.elim⟩
 | succ f ih =>
  intro at_ i j hi hj
  unfold reachT wayP
  by_cases h1 : r.kd at_ = 18
  ·rw [if_pos h1, if_pos h1, decide_eq_true_eq]
   exact ⟨fun h => ⟨hi, hj, h⟩, fun h => h.2.2⟩
  rw [if_neg h1, if_neg h1]
  by_cases h2 : r.kd at_ = 19
  ·rw [if_pos h2, if_pos h2, Bool.and_eq_true, decide_eq_true_eq]
   exact ⟨fun h => ⟨hi, hj, h⟩, fun h => h.2.2⟩
  rw [if_neg h2, if_neg h2]
  by_cases h3 : r.kd at_ = 20
  ·rw [if_pos h3, if_pos h3]
   unfold altT
   rw [Bool.or_eq_true, ih _ i j hi hj, ih _ i j hi hj]
   exact ⟨fun h => ⟨hi, hj, h⟩, fun h => h.2.2⟩
  rw [if_neg h3, if_neg h3]
  by_cases h4 : r.kd at_ = 21
  ·rw [if_pos h4, if_pos h4, prod_tells (ih _) (ih _) (way_on r n f _) i j hi hj]
   exact ⟨fun h => ⟨hi, hj, h⟩, fun h => h.2.2⟩
  rw [if_neg h4, if_neg h4]
  by_cases h5 : r.kd at_ = 22
  ·rw [if_pos h5, if_pos h5, sq_tells (way_on r n f _) (way_le r n f _) n 1 _ (by omega) (id_tells (ih _)) (by have := two_pow_big n; omega) i j hi hj]
   exact ⟨fun h => ⟨hi, hj, h⟩, fun h => h.2.2⟩
  rw [if_neg h5, if_neg h5]
  exact ⟨fun h => (by cases h), fun h => h.2.2.elim⟩
theorem chain_cut {R R' : Nat → Nat → Prop} {a m : Nat} (hF : ∀ i j, R i j → i ≤ j) (h : ∀ i j, i < m → j < m → (R' i j ↔ R (i + a) (j + a))) {i j : Nat} (hi : i < m) (hj : j < m) (hc : Chain R (i + a) (j + a)) : Chain R' i j := by
 obtain ⟨q, hc⟩ := hc
 induction q generalizing i with
 | zero =>
  have hc : i + a = j + a := hc
  obtain rfl : i = j := by omega
  exact chain_refl R' i
 | succ q ih =>
  rcases hc with e | ⟨k, h1, h2⟩
  ·obtain rfl : i = j := by omega
   exact chain_refl R' i
  ·have k1 := hF _ _ h1
   have k2 := h2.le hF
   obtain ⟨k', rfl⟩ : ∃ k', k = k' + a := ⟨k - a, by omega⟩
   exact chain_trans (chain_one ((h i k' hi (by omega)).2 h1)) (ih (by omega) h2)
theorem chain_into {R R' : Nat → Nat → Prop} {a m : Nat} (hO : On m R') (h : ∀ i j, i < m → j < m → (R' i j ↔ R (i + a) (j + a))) {i j : Nat} (hc : Chain R' i j) : Chain R (i + a) (j + a) := by
 obtain ⟨q, hc⟩ := hc
 induction q generalizing i with
 | zero =>
  have hc : i = j := hc
  subst hc
  exact chain_refl R _
 | succ q ih =>
  rcases hc with e | ⟨k, h1, h2⟩
  ·subst e
   exact chain_refl R _
  ·obtain ⟨o1, o2⟩ := hO i k h1
   exact chain_trans (chain_one ((h i k o1 o2).1 h1)) (ih h2)
end Go.Proofs.YtdbgaccnejffpaaGreatDoor.Paths

namespace Go.Proofs.YtdbgaccnejffpaaGreatDoor.Mem
open Go.RowKit Go.ChangeShapes Go.WideShapes Go.Deep Go.Proofs.YtdbgaccnejffpaaGreatDoor.Ints
def small64 (x : Int) : Prop := -9223372036854775808 ≤ x ∧ x ≤ 9223372036854775807
def Any : Nat → Prop := fun _ => True
theorem cellsInt : Tryz.prog.cellsOf 3 = 1 := by kernel_rfl
theorem field_at {fs : Array Field} {l : List (TypeId × Nat)} (h : fs.toList.map (fun f => (f.type, f.offset)) = l) {i : Nat} {t : TypeId} {o : Nat} (hi : l[i]? = some (t, o)) : ∃ f, fs[i]? = some f ∧ f.type = t ∧ f.offset = o := by
 rw [← h, List.getElem?_map] at hi
 obtain ⟨f, hf, he⟩ := Option.map_eq_some_iff.1 hi
 simp only [Prod.mk.injEq] at he
 exact ⟨f, by simpa using hf, he.1, he.2⟩
theorem one_of {cs : List Value} {o : Nat} {v : Value} (h : (cs.drop o).take 1 = [v]) : cs[o]? = some v := by
 have h1 := congrArg (·[0]?) h
 simpa using h1
theorem below_cell {w w' : World} {b o : Nat} {u : Value} (hb : Below w.heap.size w w') (h : w.cell? ⟨b, o, none⟩ = some u) : w'.cell? ⟨b, o, none⟩ = some u :=
 (hb.cell (World.block_lt_of_cell? w _ h)).trans h
theorem box_cell {w : World} {cs : Array Value} {T : TypeId} (o : Nat) (u : Value) (h : cs[o]? = some u) : (w.alloc (.cells cs T)).cell? ⟨w.heap.size, o, none⟩ = some u := by
 rw [cell_of_row _ w.heap.size o _ T (0, 0) (heap_alloc_new w _)]
 exact h
theorem below_row {w w' : World} {base : Nat} {e : TypeId} {size : Nat} {v : Value} {n : Nat} {xs : List Value} (h : w.ownsRow base e size v n xs) (hb : Below w.heap.size w w') : w'.ownsRow base e size v n xs :=
 h.kept (row := none) ⟨hb.os, hb.tape, hb.output, hb.size, fun i hi _ => hb.block i hi⟩ (by cases v.ownBlock <;> simp)
theorem le_alloc {a : Nat} {w : World} {o : Obj} (h : a ≤ w.heap.size) : a ≤ (w.alloc o).heap.size := by simp; omega
def fromAddr (A : Option Addr) (cap k size : Nat) : Option Addr := if cap = k then A else A.map (·.add (k * size))
theorem own_weaken {w : World} {base base' : Nat} {e : TypeId} {size : Nat} {v : Value} {n : Nat} {xs : List Value} (h : w.ownsRow base e size v n xs) (hb : base' ≤ base) : w.ownsRow base' e size v n xs := by
 refine ⟨h.1, ?_⟩
 rcases h.2 with h2 | ⟨g, cap, cur, h3, h4, h5⟩
 ·exact .inl h2
 ·exact .inr ⟨g, cap, cur, h3, Nat.le_trans hb h4, h5⟩
theorem own_sliceN {w : World} {base : Nat} {e : TypeId} {size : Nat} {v : Value} {n : Nat} {xs : List Value} (h : w.ownsRow base e size v n xs) : ∃ A c, v = .slice A n c ∧ n ≤ c ∧ c ≤ maxLen ∧ (A = none → c = 0) ∧ (∀ a, A = some a → base ≤ a.block ∧ a.block < w.heap.size ∧ a = ⟨a.block, 0, none⟩) := by
 have hlt := h.lt
 rcases h.2 with ⟨rfl, h0⟩ | ⟨g, cap, cur, rfl, h1, h2, h3, h4, h5⟩
 ·exact ⟨none, 0, by rw [h0], by omega, by decide, fun _ => rfl, fun a e => by cases e⟩
 ·exact ⟨_, cap, rfl, h3, h4, (fun e => by cases e), fun a e => by injection e with e; subst e; exact ⟨(hlt g rfl).1, (hlt g rfl).2, rfl⟩⟩
def strS (s : List UInt8) : Value := .string ⟨s.toArray⟩
def Strs (w : World) (A : Option Addr) (l : List (List UInt8)) : Prop :=
 0 < l.length → ∃ b off, A = some ⟨b, off, none⟩ ∧ ∀ (j : Nat) (s : List UInt8), l[j]? = some s → w.cell? ⟨b, off + j, none⟩ = some (strS s)
theorem Strs.below {w w' : World} {A : Option Addr} {l : List (List UInt8)} (h : Strs w A l) (hb : Below w.heap.size w w') : Strs w' A l := fun h0 => by
 obtain ⟨b, off, h1, h2⟩ := h h0
 exact ⟨b, off, h1, fun j s hs => below_cell hb (h2 j s hs)⟩
theorem Strs.take {w : World} {A : Option Addr} {l : List (List UInt8)} (h : Strs w A l) (k : Nat) : Strs w A (l.take k) := fun h0 => by
 rw [List.length_take] at h0
 obtain ⟨b, off, h1, h2⟩ := h (by omega)
 refine ⟨b, off, h1, fun j s hs => h2 j s ?_⟩
 by_cases hj : j < k
 ·rwa [List.getElem?_take_of_lt hj] at hs
 ·rw [List.getElem?_eq_none (by rw [List.length_take]; omega)] at hs
  cases hs
end Go.Proofs.YtdbgaccnejffpaaGreatDoor.Mem

namespace Go.Proofs.YtdbgaccnejffpaaGreatDoor.Mem
open Go.RowKit Go.Proofs.YtdbgaccnejffpaaGreatDoor.Ints
def Blk (w : World) (g : Nat) (vs : List Value) : Prop := g < w.heap.size ∧ ∀ (k : Nat) (v : Value), vs[k]? = some v → w.cell? ⟨g, k, none⟩ = some v ∧ w.frozen? ⟨g, k, none⟩ = false
theorem Blk.cell {w : World} {g : Nat} {vs : List Value} (h : Blk w g vs) (k : Nat) {v : Value} (hv : vs[k]? = some v) : w.cell? ⟨g, k, none⟩ = some v := (h.2 k v hv).1
theorem Blk.fz {w : World} {g : Nat} {vs : List Value} (h : Blk w g vs) (k : Nat) {v : Value} (hv : vs[k]? = some v) : w.frozen? ⟨g, k, none⟩ = false := (h.2 k v hv).2
theorem Blk.same {w w' : World} {g : Nat} {vs : List Value} (h : Blk w g vs) (hs : w.heap.size ≤ w'.heap.size) (hb : w'.heap[g]? = w.heap[g]?) : Blk w' g vs :=
 ⟨Nat.lt_of_lt_of_le h.1 hs, fun k _ hv => ⟨(World.cell?_of_block (w := w) (a := ⟨g, k, none⟩) hb).trans (h.cell k hv), (World.frozen?_of_block (w := w) (a := ⟨g, k, none⟩) hb).trans (h.fz k hv)⟩⟩
theorem Blk.below {B : Nat} {w w' : World} {g : Nat} {vs : List Value} (h : Blk w g vs) (hb : Below B w w') (hg : g < B) : Blk w' g vs := h.same hb.size (hb.block g hg)
theorem Blk.later {w w' : World} {g : Nat} {vs : List Value} (h : Blk w g vs) (hb : Below w.heap.size w w') : Blk w' g vs := h.below hb h.1
theorem Blk.alloc {w : World} {g : Nat} {vs : List Value} (h : Blk w g vs) (o : Obj) : Blk (w.alloc o) g vs := h.later ((Below.refl _ _).alloc (Nat.le_refl _) _)
theorem Blk.grown {w w' : World} {g : Nat} {vs : List Value} {row : Option Nat} (h : Blk w g vs) (hg : w.grownBy w' row) (hne : some g ≠ row) : Blk w' g vs := h.same hg.size (hg.block g h.1 hne)
theorem Blk.set {w : World} {g : Nat} {vs : List Value} (h : Blk w g vs) (k : Nat) (u : Value) (hk : k < vs.length) : Blk (w.setCell ⟨g, k, none⟩ u) g (vs.set k u) := by
 refine ⟨by simpa using h.1, fun j v hv => ⟨?_, ?_⟩⟩
 ·rw [List.getElem?_set] at hv
  by_cases e : k = j
  ·subst e
   rw [if_pos rfl, if_pos hk] at hv
   cases hv
   exact World.cell?_setCell_same _ _ _ (h.cell k (List.getElem?_eq_getElem hk))
  ·rw [if_neg e] at hv
   exact (World.cell?_setCell_other _ _ _ _ (fun e' => e (by injection e'))).trans (h.cell j hv)
 ·rw [World.frozen?_setCell]
  rw [List.getElem?_set] at hv
  by_cases e : k = j
  ·subst e
   exact h.fz k (List.getElem?_eq_getElem hk)
  ·rw [if_neg e] at hv
   exact h.fz j hv
theorem Blk.other {w : World} {g : Nat} {vs : List Value} (h : Blk w g vs) (p : Addr) (u : Value) (hp : g ≠ p.block) : Blk (w.setCell p u) g vs := h.same (by simp) (Below.heap_setCell w p u g hp)
theorem Blk.drew {w : World} {g : Nat} {vs : List Value} (h : Blk w g vs) : Blk w.drew g vs := h
theorem Blk.new (w : World) (cs : Array Value) (T : TypeId) (vs : List Value) (hv : cs.toList = vs) : Blk (w.alloc (.cells cs T)) w.heap.size vs := by
 subst hv
 refine ⟨by simp, fun k v hk => ⟨?_, ?_⟩⟩
 ·rw [cell_of_row _ w.heap.size k _ T (0, 0) (heap_alloc_new w _)]
  simpa using hk
 ·exact World.frozen?_alloc_new _ _ _ _
end Go.Proofs.YtdbgaccnejffpaaGreatDoor.Mem

namespace Go.Proofs.YtdbgaccnejffpaaGreatDoor.Src
open Go.RowKit Go.Proofs.YtdbgaccnejffpaaGreatDoor.Ints Go.Proofs.YtdbgaccnejffpaaGreatDoor.Mem
theorem rd_lt {k : IntKind} {w : World} {A : Option Addr} {n : Nat} {zs : List Int} (h : Rd k w A n zs) : ∀ a, A = some a → 0 < n → a.block < w.heap.size := by
 intro a e h0
 obtain ⟨b, off, e2, hc⟩ := h.cell h0
 rw [e] at e2
 injection e2 with e2
 subst e2
 exact World.block_lt_of_cell? w _ (hc 0 h0)
theorem grown_cell (w : World) (p : Addr) (u : Value) : w.grownBy (w.setCell p u) (some p.block) :=
 ⟨rfl, rfl, rfl, by simp [World.setCell], fun k _ hne => Below.heap_setCell w p u k (fun e => hne (by rw [e]))⟩
theorem slice_midB {P : Program} (t : TypeId) (ht : P.underlying t = some (.slice (P.elem t))) (size : Nat) (hs : (P.info? (P.elem t)).map (·.size) = some size) (A : Option Addr) (n cap k m : Nat) (hk : k ≤ m) (hm : m ≤ cap) (W : World) :
  (Instr.slice t (.slice A n cap) (some (.int .i64 (k : Int))) (some (.int .i64 (m : Int))) none).run P W = .ok (.slice (fromAddr A cap k size) (m - k) (cap - k)) W := by
 rw [run_slice_lh W t A n cap ht .i64 .i64 (k : Int) (m : Int) (by omega) (by omega) (by omega)]
 obtain ⟨i, hi, hz⟩ := Option.map_eq_some_iff.1 hs
 simp [sizeOf, typeInfo, hi, hz, Result.andThen, sliced, fromAddr]
end Go.Proofs.YtdbgaccnejffpaaGreatDoor.Src

namespace Go.Proofs.YtdbgaccnejffpaaGreatDoor.Paths
open Go.RowKit Go.Proofs.YtdbgaccnejffpaaGreatDoor.Ints Go.Proofs.YtdbgaccnejffpaaGreatDoor.Mem Go.Proofs.YtdbgaccnejffpaaGreatDoor.Src
theorem infoBl : (Tryz.prog.info? 4).map (fun i => (i.zero, i.size, i.bytes)) = some (some (.bool false), 1, 1) := by kernel_rfl
theorem infoBs : (Tryz.prog.info? 52).map (fun i => (i.zero, i.size, i.bytes)) = some (some (.slice none 0 0), 1, 24) := by kernel_rfl
def rowT (n : Nat) (m : Tb) (i : Nat) : List Value := (List.range n).map fun j => .bool (m i j)
theorem rowT_at {n : Nat} {m : Tb} {i j : Nat} (h : j < n) : (rowT n m i)[j]? = some (.bool (m i j)) := by
 unfold rowT
 rw [List.getElem?_map, List.getElem?_range h]
 rfl
structure Tab (w : World) (lo B : Nat) (R : Nat → Nat) (n : Nat) (m : Tb) : Prop where
 out : w.ownsRow lo 52 1 (.slice (some ⟨B, 0, none⟩) n n) n ((List.range n).map fun i => .slice (some ⟨R i, 0, none⟩) n n)
 row : ∀ i, i < n → w.ownsRow lo 4 1 (.slice (some ⟨R i, 0, none⟩) n n) n (rowT n m i)
 off : ∀ i, i < n → R i ≠ B ∧ ∀ j, j < n → R i = R j → i = j
theorem Tab.outer {w : World} {lo B : Nat} {R : Nat → Nat} {n : Nat} {m : Tb} (h : Tab w lo B R n m) {i : Nat} (hi : i < n) : w.cell? ⟨B, i, none⟩ = some (.slice (some ⟨R i, 0, none⟩) n n) := by
 have := h.out.cells (g := B) rfl i (.slice (some ⟨R i, 0, none⟩) n n) (by rw [List.getElem?_map, List.getElem?_range hi]; rfl)
 rwa [Addr.add_lit, Nat.zero_add] at this
theorem Tab.inner {w : World} {lo B : Nat} {R : Nat → Nat} {n : Nat} {m : Tb} (h : Tab w lo B R n m) {i j : Nat} (hi : i < n) (hj : j < n) : w.cell? ⟨R i, j, none⟩ = some (.bool (m i j)) := by
 have := (h.row i hi).cells (g := R i) rfl j (.bool (m i j)) (rowT_at hj)
 rwa [Addr.add_lit, Nat.zero_add] at this
theorem own_fz {w : World} {B : Nat} {e : TypeId} {size r n c : Nat} {xs : List Value} (h : w.ownsRow B e size (.slice (some ⟨r, 0, none⟩) n c) n xs) (k : Nat) : w.frozen? ⟨r, k, none⟩ = false := by
 rcases h.2 with ⟨e1, -⟩ | ⟨g', c', cur, e1, hB, hg, -⟩
 ·cases e1
 ·injection e1 with e1 e2 e3
  injection e1 with e1
  injection e1 with e1 _ _
  subst e1
  simp [World.frozen?, hg]
theorem own_put {w : World} {B : Nat} {e : TypeId} {size r n c k : Nat} {xs : List Value} (h : w.ownsRow B e size (.slice (some ⟨r, 0, none⟩) n c) n xs) (u : Value) : (w.setCell ⟨r, k, none⟩ u).ownsRow B e size (.slice (some ⟨r, 0, none⟩) n c) n (xs.set k u) := by
 rcases h.2 with ⟨e1, -⟩ | ⟨g', c', cur, e1, hB, hg, hnc, hcm, hcs, htk⟩
 ·cases e1
 ·injection e1 with e1 e2 e3
  injection e1 with e1
  injection e1 with e1 _ _
  subst e1
  subst e3
  have hs := setCell_eq_setRow w r k cur e (0, 0) u hg
  have hg2 := setRow_heap w r cur (cur.setIfInBounds k u) e (0, 0) hg
  rw [← hs] at hg2
  refine ⟨by rw [List.length_set]; exact h.1, .inr ⟨r, c, _, rfl, hB, hg2, hnc, hcm, by simpa using hcs, ?_⟩⟩
  rw [Array.toList_setIfInBounds, List.take_set, htk]
theorem Tab.kept {w w' : World} {lo B : Nat} {R : Nat → Nat} {n : Nat} {m : Tb} (h : Tab w lo B R n m) (hb : w'.heap[B]? = w.heap[B]?) (hr : ∀ i, i < n → w'.heap[R i]? = w.heap[R i]?) : Tab w' lo B R n m := by
 have go : ∀ {e : TypeId} {r : Nat} {xs : List Value}, w'.heap[r]? = w.heap[r]? → w.ownsRow lo e 1 (.slice (some ⟨r, 0, none⟩) n n) n xs → w'.ownsRow lo e 1 (.slice (some ⟨r, 0, none⟩) n n) n xs := fun hq h => by
  refine ⟨h.1, ?_⟩
  rcases h.2 with h2 | ⟨g, cap, cur, e1, h4, h5, h6⟩
  ·exact .inl h2
  ·injection e1 with e1 e2 e3
   injection e1 with e1
   injection e1 with e1 _ _
   subst e1
   subst e3
   exact .inr ⟨_, _, cur, rfl, h4, hq.trans h5, h6⟩
 exact ⟨go hb h.out, fun i hi => go (hr i hi) (h.row i hi), h.off⟩
theorem made_bools (n : Nat) : (madeCells (Value.bool false).cells (n * 1)).toList = List.replicate n (.bool false) := by
 rw [Nat.mul_one]
 have e : (Value.bool false).cells = #[.bool false] := rfl
 rw [e]
 apply List.ext_getElem
 ·simp [madeCells]
 ·intro i h1 h2
  simp [madeCells, Nat.mod_one]
theorem made_slices (n : Nat) : (madeCells (Value.slice none 0 0).cells (n * 1)).toList = List.replicate n (.slice none 0 0) := by
 rw [Nat.mul_one]
 have e : (Value.slice none 0 0).cells = #[.slice none 0 0] := rfl
 rw [e]
 apply List.ext_getElem
 ·simp [madeCells]
 ·intro i h1 h2
  simp [madeCells, Nat.mod_one]
end Go.Proofs.YtdbgaccnejffpaaGreatDoor.Paths

namespace Go.Proofs.YtdbgaccnejffpaaGreatDoor.Sat
open Go.RowKit Go.Proofs.YtdbgaccnejffpaaGreatDoor.Ints Go.Proofs.YtdbgaccnejffpaaGreatDoor.Mem Go.Proofs.YtdbgaccnejffpaaGreatDoor.Src Go.Proofs.YtdbgaccnejffpaaGreatDoor.Paths
def bl (n : Nat) (f : Nat → Bool) : List Value := (List.range n).map fun j => .bool (f j)
theorem bl_len (n : Nat) (f : Nat → Bool) : (bl n f).length = n := by simp [bl]
theorem bl_at {n j : Nat} {f : Nat → Bool} (h : j < n) : (bl n f)[j]? = some (.bool (f j)) := by
 unfold bl
 rw [List.getElem?_map, List.getElem?_range h]
 rfl
theorem bl_congr {n : Nat} {f g : Nat → Bool} (h : ∀ j, j < n → f j = g j) : bl n f = bl n g := by
 unfold bl
 exact List.map_congr_left fun j hj => by rw [h j (List.mem_range.1 hj)]
def upTo (k : Nat) (f : Nat → Bool) (j : Nat) : Bool := decide (j < k) && f j
theorem bl_zero (n : Nat) (f : Nat → Bool) : bl n (upTo 0 f) = List.replicate n (.bool false) := by
 have e : ∀ j, upTo 0 f j = false := fun j => by unfold upTo; rw [decide_eq_false (by omega)]; rfl
 rw [bl_congr (g := fun _ => false) fun j _ => e j]
 unfold bl
 rw [List.map_const', List.length_range]
theorem bl_full (n : Nat) (f : Nat → Bool) : bl n (upTo n f) = bl n f := bl_congr fun j hj => by unfold upTo; rw [decide_eq_true hj]; rfl
theorem bl_set {n i : Nat} (f : Nat → Bool) {x : Bool} (hi : i < n) (hx : x = f i) : (bl n (upTo i f)).set i (.bool x) = bl n (upTo (i + 1) f) := by
 apply List.ext_getElem?
 intro a
 rw [List.getElem?_set, bl_len]
 by_cases h : a < n
 ·rw [bl_at h, bl_at h]
  unfold upTo
  by_cases e : i = a
  ·subst e
   rw [if_pos rfl, if_pos h, decide_eq_true (by omega), hx]; rfl
  ·rw [if_neg e]
   by_cases h2 : a < i
   ·rw [decide_eq_true h2, decide_eq_true (by omega)]
   ·rw [decide_eq_false h2, decide_eq_false (by omega)]
 ·rw [List.getElem?_eq_none (l := bl n (upTo (i + 1) f)) (by rw [bl_len]; omega)]
  by_cases e : i = a
  ·rw [if_pos e, if_neg (by omega)]
  ·rw [if_neg e, List.getElem?_eq_none (by rw [bl_len]; omega)]
def OB (w : World) (lo b n : Nat) (f : Nat → Bool) : Prop := w.ownsRow lo 4 1 (.slice (some ⟨b, 0, none⟩) n n) n (bl n f)
def RB (w : World) (b n : Nat) (f : Nat → Bool) : Prop := ∀ j, j < n → w.cell? ⟨b, j, none⟩ = some (.bool (f j))
theorem OB.rb {w : World} {lo b n : Nat} {f : Nat → Bool} (h : OB w lo b n f) : RB w b n f := fun j hj => by
 have := World.ownsRow.cells h (g := b) rfl j _ (bl_at hj)
 rwa [Addr.add_lit, Nat.zero_add] at this
theorem OB.lt {w : World} {lo b n : Nat} {f : Nat → Bool} (h : OB w lo b n f) : lo ≤ b ∧ b < w.heap.size := World.ownsRow.lt h b rfl
theorem OB.congr {w : World} {lo b n : Nat} {f g : Nat → Bool} (h : OB w lo b n f) (e : ∀ j, j < n → f j = g j) : OB w lo b n g := by unfold OB; rw [← bl_congr e]; exact h
theorem OB.low {w : World} {lo lo' b n : Nat} {f : Nat → Bool} (h : OB w lo b n f) (hl : lo' ≤ lo) : OB w lo' b n f := Mem.own_weaken h hl
theorem OB.same {w w' : World} {lo b n : Nat} {f : Nat → Bool} (h : OB w lo b n f) (hs : w'.heap[b]? = w.heap[b]?) : OB w' lo b n f := by
 refine ⟨h.1, ?_⟩
 rcases h.2 with h2 | ⟨g, cap, cur, e1, h4, h5, h6⟩
 ·exact .inl h2
 ·injection e1 with e1 e2 e3
  injection e1 with e1
  injection e1 with e1 _ _
  subst e1
  exact .inr ⟨_, _, cur, by rw [e3], h4, hs.trans h5, by rw [← e3]; rw [← e3] at h6; exact h6⟩
theorem OB.below {w w' : World} {lo b n : Nat} {f : Nat → Bool} (h : OB w lo b n f) (hb : Below w.heap.size w w') : OB w' lo b n f := h.same (hb.block b h.lt.2)
theorem RB.below {w w' : World} {b n : Nat} {f : Nat → Bool} (h : RB w b n f) (hb : Below w.heap.size w w') : RB w' b n f := fun j hj => below_cell hb (h j hj)
def GotB (w : World) (n : Nat) (f : Nat → Bool) (e : Ending) (w' : World) : Prop := ∃ b, e = .returned (.slice (some ⟨b, 0, none⟩) n n) ∧ OB w' w.heap.size b n f ∧ Below w.heap.size w w'
theorem GotB.after {w w1 w' : World} {n : Nat} {f : Nat → Bool} {e : Ending} (h : GotB w1 n f e w') (hb : Below w.heap.size w w1) : GotB w n f e w' := by
 obtain ⟨b, h1, h2, h3⟩ := h
 exact ⟨b, h1, h2.low hb.size, hb.trans (h3.mono hb.size)⟩
set_option maxHeartbeats 8000000 in
set_option maxRecDepth 100000 in
theorem landNot (b n : Nat) (f : Nat → Bool) (w : World) (h : RB w b n f) (hn : n ≤ 1000) :
  Calls Tryz.prog 35 #[.slice (some ⟨b, 0, none⟩) n n] w (GotB w n (fun j => !(f j))) := by
 have q63 : maxLen = 9223372036854775807 := rfl
 obtain ⟨i1, hi1, hy0, hy1, hy2⟩ := info_parts infoBl
 have b2 : i1.bytes * n ≤ 281474976710656 := by rw [hy2]; omega
 have b3 : n ≤ maxLen := by omega
 have H := Lib.hid h
 clear h
 go_enter Tryz.func35, Tryz.ntmps35
 go_wp2_with (at_make; refine wpList_make_full _ rfl (.tmp 7) (.tmp 7) 52 rfl w.heap.size 4 i1 (.bool false) 1 Tryz.underlying52 hi1 hy0 hy1 .i64 .i64 _ _ n rfl rfl rfl rfl b2 b3 (Nat.le_refl _) ?_; intro w1 hmade hgr1; rw [made_bools] at hmade)
 have HM := Lib.hid (show OB w1 w.heap.size w.heap.size n (upTo 0 fun j => !(f j)) from by unfold OB; rw [bl_zero]; exact hmade)
 have HG := Lib.hid (show Below w.heap.size w w1 from ⟨hgr1.os, hgr1.tape, hgr1.output, hgr1.size, fun k hk => hgr1.block k hk (by simp)⟩)
 clear hmade hgr1
 go_loopw [4, 5, 11] (fun _ _ v wr => ∃ i : Nat, v = .int .i64 (i : Nat) ∧ i ≤ n ∧ OB wr w.heap.size w.heap.size n (upTo i fun j => !(f j)) ∧ Below w.heap.size w wr) (fun _ _ v _ => n - (intOf v).toNat)
 case atStart => exact ⟨0, rfl, Nat.zero_le _, HM.out, HG.out⟩
 case round =>
  obtain ⟨i, rfl, hin, hO, hB⟩ := hrel
  have HO := Lib.hid hO
  have HB := Lib.hid hB
  by_cases hlt : i < n
  ·have x1 := (H.out.below hB) i hlt
   have c0 := hO.rb i hlt
   have f0 := own_fz hO i
   clear hO hB
   go_wp2_with fail
   go_roundw
   case rel =>
    refine ⟨i + 1, by simp, by omega, ?_, HB.out.setCell (p := ⟨w.heap.size, i, none⟩) (Nat.le_refl _) _⟩
    have h1 := own_put (k := i) HO.out (.bool (!(f i)))
    rw [bl_set (fun j => !(f j)) hlt rfl] at h1
    exact h1
   case measure => (show n - (i + 1) < n - i; omega)
  ·obtain rfl : i = n := by omega
   clear hO hB
   go_wp2_with fail
   go_ret
   refine ⟨w.heap.size, rfl, ?_, HB.out⟩
   have h1 := HO.out
   unfold OB at h1
   rw [bl_full] at h1
   exact h1
end Go.Proofs.YtdbgaccnejffpaaGreatDoor.Sat

namespace Go.Proofs.YtdbgaccnejffpaaGreatDoor.Sat
open Go.RowKit Go.Proofs.YtdbgaccnejffpaaGreatDoor.Ints Go.Proofs.YtdbgaccnejffpaaGreatDoor.Mem Go.Proofs.YtdbgaccnejffpaaGreatDoor.Src Go.Proofs.YtdbgaccnejffpaaGreatDoor.Paths
theorem infoI64 : (Tryz.prog.info? 3).map (fun i => (i.zero, i.size, i.bytes)) = some (some (.int .i64 0), 1, 8) := by kernel_rfl
theorem made_i64 (n : Nat) : (madeCells (Value.int .i64 0).cells (n * 1)).toList = List.replicate n (.int .i64 0) := by
 rw [Nat.mul_one]
 have e : (Value.int .i64 0).cells = #[.int .i64 0] := rfl
 rw [e]
 apply List.ext_getElem
 ·simp [madeCells]
 ·intro i h1 h2
  simp [madeCells, Nat.mod_one]
def il (n : Nat) (g : Nat → Nat) : List Value := (List.range n).map fun j => .int .i64 ((g j : Nat) : Int)
theorem il_len (n : Nat) (g : Nat → Nat) : (il n g).length = n := by simp [il]
theorem il_at {n j : Nat} {g : Nat → Nat} (h : j < n) : (il n g)[j]? = some (.int .i64 ((g j : Nat) : Int)) := by
 unfold il
 rw [List.getElem?_map, List.getElem?_range h]
 rfl
theorem il_congr {n : Nat} {f g : Nat → Nat} (h : ∀ j, j < n → f j = g j) : il n f = il n g := by
 unfold il
 exact List.map_congr_left fun j hj => by rw [h j (List.mem_range.1 hj)]
theorem il_set {n i x : Nat} {g g' : Nat → Nat} (hi : i < n) (hx : g' i = x) (h : ∀ j, j < n → j ≠ i → g' j = g j) : (il n g).set i (.int .i64 ((x : Nat) : Int)) = il n g' := by
 apply List.ext_getElem?
 intro a
 rw [List.getElem?_set, il_len]
 by_cases ha : a < n
 ·rw [il_at ha, il_at ha]
  by_cases e : i = a
  ·subst e
   rw [if_pos rfl, if_pos ha, hx]
  ·rw [if_neg e, h a ha (fun e2 => e e2.symm)]
 ·rw [List.getElem?_eq_none (l := il n g') (by rw [il_len]; omega)]
  by_cases e : i = a
  ·rw [if_pos e, if_neg (by omega)]
  ·rw [if_neg e, List.getElem?_eq_none (by rw [il_len]; omega)]
theorem il_zero (n : Nat) : il n (fun _ => 0) = List.replicate n (.int .i64 0) := by
 unfold il
 rw [List.map_const', List.length_range]
 rfl
def OI (w : World) (lo b n : Nat) (g : Nat → Nat) : Prop := w.ownsRow lo 3 1 (.slice (some ⟨b, 0, none⟩) n n) n (il n g)
theorem OI.cell {w : World} {lo b n : Nat} {g : Nat → Nat} (h : OI w lo b n g) {j : Nat} (hj : j < n) : w.cell? ⟨b, j, none⟩ = some (.int .i64 ((g j : Nat) : Int)) := by
 have := World.ownsRow.cells h (g := b) rfl j _ (il_at hj)
 rwa [Addr.add_lit, Nat.zero_add] at this
theorem OI.put {w : World} {lo b n : Nat} {g g' : Nat → Nat} (h : OI w lo b n g) {i x : Nat} (hi : i < n) (hx : g' i = x) (hg : ∀ j, j < n → j ≠ i → g' j = g j) : OI (w.setCell ⟨b, i, none⟩ (.int .i64 ((x : Nat) : Int))) lo b n g' := by
 have h1 := own_put (k := i) h (.int .i64 ((x : Nat) : Int))
 rw [il_set hi hx hg] at h1
 exact h1
def cnt (f : Nat → Bool) : Nat → Nat
 | 0 => 0
 | k + 1 => cnt f k + (if f k = true then 1 else 0)
theorem cnt_le (f : Nat → Bool) (k : Nat) : cnt f k ≤ k := by
 induction k with
 | zero => exact Nat.le_refl _
 | succ k ih => unfold cnt; split <;> omega
theorem cnt_mono (f : Nat → Bool) {a b : Nat} (h : a ≤ b) : cnt f a ≤ cnt f b := by
 induction b with
 | zero => rw [show a = 0 by omega]; exact Nat.le_refl _
 | succ b ih =>
  by_cases e : a = b + 1
  ·rw [e]; exact Nat.le_refl _
  ·have := ih (by omega)
   show _ ≤ cnt f b + _
   omega
theorem cnt_lt (f : Nat → Bool) (a b : Nat) : cnt f a < cnt f b ↔ ∃ j, a ≤ j ∧ j < b ∧ f j = true := by
 constructor
 ·intro h
  refine Classical.byContradiction fun hn => ?_
  have key : ∀ b', b' ≤ b → cnt f b' ≤ cnt f a := by
   intro b'
   induction b' with
   | zero => intro _; exact Nat.zero_le _
   | succ q ih =>
    intro hq
    by_cases hqa : q < a
    ·exact cnt_mono f (by omega)
    ·have h1 := ih (by omega)
     show cnt f q + _ ≤ _
     rw [if_neg (fun e => hn ⟨q, by omega, by omega, e⟩)]
     exact h1
  have := key b (Nat.le_refl _)
  omega
 ·rintro ⟨j, h1, h2, h3⟩
  have a1 := cnt_mono f h1
  have a2 := cnt_mono f (show j + 1 ≤ b by omega)
  have a3 : cnt f (j + 1) = cnt f j + 1 := by show cnt f j + (if f j = true then 1 else 0) = _; rw [if_pos h3]
  omega
def cntTo (f : Nat → Bool) (i j : Nat) : Nat := if j ≤ i then cnt f j else 0
theorem cntTo_zero (f : Nat → Bool) (j : Nat) : cntTo f 0 j = 0 := by
 unfold cntTo
 by_cases h : j ≤ 0
 ·rw [if_pos h, show j = 0 by omega]; rfl
 ·rw [if_neg h]
set_option maxHeartbeats 8000000 in
set_option maxRecDepth 100000 in
theorem landCounted (b n : Nat) (f : Nat → Bool) (w : World) (h : RB w b n f) (hn : n ≤ 1000) :
  Calls Tryz.prog 62 #[.slice (some ⟨b, 0, none⟩) n n] w fun e w' => ∃ g, e = .returned (.slice (some ⟨g, 0, none⟩) (n + 1 : Nat) (n + 1 : Nat)) ∧ OI w' w.heap.size g (n + 1) (cnt f) ∧ Below w.heap.size w w' := by
 have q63 : maxLen = 9223372036854775807 := rfl
 obtain ⟨m, hm⟩ : ∃ m, n + 1 = m := ⟨_, rfl⟩
 rw [hm]
 have hmi : ((n : Nat) : Int) + 1 = ((m : Nat) : Int) := by omega
 obtain ⟨i1, hi1, hy0, hy1, hy2⟩ := info_parts infoI64
 have b2 : i1.bytes * m ≤ 281474976710656 := by rw [hy2]; omega
 have b3 : m ≤ maxLen := by omega
 have H := Lib.hid h
 have HN := Lib.hid hm
 clear h hm
 go_enter Tryz.func62, Tryz.ntmps62
 go_wp2_with (at_make; refine wpList_make_full _ rfl (.tmp 8) (.tmp 8) 35 rfl w.heap.size 3 i1 (.int .i64 0) 1 Tryz.underlying35 hi1 hy0 hy1 .i64 .i64 _ _ m rfl rfl (by rfl) (by rfl) b2 b3 (Nat.le_refl _) ?_; intro w1 hmade hgr1; rw [made_i64] at hmade)
 have HM := Lib.hid (show OI w1 w.heap.size w.heap.size m (cntTo f 0) from by
  unfold OI
  rw [il_congr (g := fun _ => 0) (fun j _ => cntTo_zero f j), il_zero]
  exact hmade)
 have HG := Lib.hid (show Below w.heap.size w w1 from ⟨hgr1.os, hgr1.tape, hgr1.output, hgr1.size, fun k hk => hgr1.block k hk (by simp)⟩)
 clear hmade hgr1 hmi
 go_loopw [4, 5, 12] (fun _ _ v wr => ∃ i : Nat, v = .int .i64 (i : Nat) ∧ i ≤ n ∧ OI wr w.heap.size w.heap.size m (cntTo f i) ∧ Below w.heap.size w wr) (fun _ _ v _ => n - (intOf v).toNat)
 case atStart => exact ⟨0, rfl, Nat.zero_le _, HM.out, HG.out⟩
 case round =>
  obtain ⟨i, rfl, hin, hO, hB⟩ := hrel
  have HO := Lib.hid hO
  have HB := Lib.hid hB
  by_cases hlt : i < n
  ·have x1 := (H.out.below hB) i hlt
   obtain ⟨k, hk⟩ : ∃ k, i + 1 = k := ⟨_, rfl⟩
   have hki : ((i : Nat) : Int) + 1 = ((k : Nat) : Int) := by omega
   have hkm : k < m := by have := HN.out; omega
   have hkm' : ((k : Nat) : Int) < ((m : Nat) : Int) := by omega
   have hkn : ((k : Nat) : Int) ≤ 1000 := by omega
   have him : ((i : Nat) : Int) < ((m : Nat) : Int) := by omega
   obtain ⟨C, hC⟩ : ∃ C, cnt f i = C := ⟨_, rfl⟩
   have hC1 : C ≤ 1000 := by have := cnt_le f i; omega
   have hCi : ((C : Nat) : Int) ≤ 1000 := by omega
   have c0 := hO.cell (j := i) (by omega)
   rw [show cntTo f i i = C by unfold cntTo; rw [if_pos (Nat.le_refl _), hC]] at c0
   have c1 := hO.cell (j := k) hkm
   have f0 := own_fz hO k
   have HK := Lib.hid (And.intro hk hC)
   have HP := Lib.hid (hO.put (g' := fun j => if j = k then C else cntTo f i j) hkm (if_pos rfl) (fun j _ hj => if_neg hj))
   clear hO hB hk hC
   by_cases hf : f i = true
   ·rw [hf] at x1
    have HF := Lib.hid hf
    clear hf
    go_wp2_with fail
    go_roundw
    case rel =>
     refine ⟨k, by simp, by omega, ?_, (HB.out.setCell (p := ⟨w.heap.size, k, none⟩) (Nat.le_refl _) _).setCell (p := ⟨w.heap.size, k, none⟩) (Nat.le_refl _) _⟩
     refine HP.out.put (x := C + 1) hkm ?_ (fun j hj hne => ?_)
     ·unfold cntTo
      rw [if_pos (Nat.le_refl _), ← HK.out.1]
      show cnt f i + _ = _
      rw [if_pos HF.out, HK.out.2]
     ·show cntTo f k j = if j = k then C else cntTo f i j
      rw [if_neg hne]
      unfold cntTo
      have := HK.out.1
      by_cases e : j ≤ i
      ·rw [if_pos (by omega), if_pos e]
      ·rw [if_neg (by omega), if_neg e]
    case measure => (show n - k < n - i; have := HK.out.1; omega)
   ·have hf : f i = false := by simpa using hf
    rw [hf] at x1
    have HF := Lib.hid hf
    clear hf
    go_wp2_with fail
    go_roundw
    case rel =>
     refine ⟨k, by simp, by omega, ?_, HB.out.setCell (p := ⟨w.heap.size, k, none⟩) (Nat.le_refl _) _⟩
     have h1 := HP.out
     unfold OI at h1 ⊢
     rw [il_congr (g := cntTo f k) (fun j hj => ?_)] at h1
     ·exact h1
     ·show (if j = k then C else cntTo f i j) = cntTo f k j
      have := HK.out.1
      by_cases e1 : j = k
      ·subst e1
       rw [if_pos rfl]
       unfold cntTo
       rw [if_pos (Nat.le_refl _), ← this]
       show _ = cnt f i + _
       rw [if_neg (by rw [HF.out]; decide), HK.out.2]; rfl
      ·rw [if_neg e1]
       unfold cntTo
       by_cases e : j ≤ i
       ·rw [if_pos e, if_pos (by omega)]
       ·rw [if_neg e, if_neg (by omega)]
    case measure => (show n - k < n - i; have := HK.out.1; omega)
  ·obtain rfl : i = n := by omega
   clear hO hB
   go_wp2_with fail
   go_ret
   refine ⟨w.heap.size, rfl, ?_, HB.out⟩
   have h1 := HO.out
   unfold OI at h1 ⊢
   rw [il_congr (g := cnt f) (fun j hj => by unfold cntTo; rw [if_pos (by have := HN.out; omega)])] at h1
   exact h1
end Go.Proofs.YtdbgaccnejffpaaGreatDoor.Sat
