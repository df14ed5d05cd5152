/-
  Ways of a regular expression, told by the kinds and kids of its nodes (stage 14). By an AI agent.
  What walks over memory share, whatever the program: fields of structs that came in, cells behind later blocks, parts of slices, a block cell by cell, strings in rows. By an AI agent.
  A block of memory, cell by cell. By an AI agent.
  A source of bytes as plain lists: what a Read tells. A block of the reference's source. By an AI agent.
-/
import Derived.Test.YtcpmcgbjmncalaaGPathsLocal1
import Derived.Test.YtcpmcgbjmncalaaChecked
import Derived.WalkKit
import Derived.WalkSpells
import Derived.Below
import Derived.Lib.Hide
import Derived.Deep.Slices
import Derived.Deep.Fields
import Derived.ChangeSame
import Derived.ChangeArms
import Derived.ChangeSlices
import Derived.IntWalk
import Derived.Deep.QuietTactic
import Derived.BigQuiet
import Derived.Maps.AppendAt
import Derived.Laws.AppendOwnNone
namespace Go.Proofs.Ytcpmcgbjmncalaa.Paths

/-- A regular expression's nodes: their kinds, their kids, which tests hold at which points (by a test's node). -/
structure Rx where
  kd : Nat → Int
  k0 : Nat → Nat
  k1 : Nat → Nat
  h : Nat → Nat → Bool
/-- There is a way of the node `at_` from i to j, of n points. -/
def wayP (r : Rx) (n : Nat) : Nat → Nat → Nat → Nat → Prop
  | 0, _, _, _ => False
  | f + 1, at_, i, j => i < n ∧ j < n ∧
    if r.kd at_ = 18 then j = i + 1 else if r.kd at_ = 19 then j = i ∧ r.h at_ i = true
    else if r.kd at_ = 20 then wayP r n f (r.k0 at_) i j ∨ wayP r n f (r.k1 at_) i j
    else if r.kd at_ = 21 then ∃ k, wayP r n f (r.k0 at_) i k ∧ wayP r n f (r.k1 at_) k j
    else if r.kd at_ = 22 then Chain (wayP r n f (r.k0 at_)) i j else False
/-- The same as a table, reckoned as the document's words go. -/
def reachT (r : Rx) (n : Nat) : Nat → Nat → Tb
  | 0, _ => fun _ _ => false
  | f + 1, at_ =>
    if r.kd at_ = 18 then fun i j => decide (j = i + 1) else if r.kd at_ = 19 then fun i j => decide (j = i) && r.h at_ i
    else if r.kd at_ = 20 then altT (reachT r n f (r.k0 at_)) (reachT r n f (r.k1 at_))
    else if r.kd at_ = 21 then prodT n (reachT r n f (r.k0 at_)) (reachT r n f (r.k1 at_))
    else if r.kd at_ = 22 then sqT n n 1 (idT (reachT r n f (r.k0 at_))) else fun _ _ => false
theorem way_on (r : Rx) (n f at_ : Nat) : On n (wayP r n f at_) := fun i j h => by
  cases f with
  | zero => exact h.elim
  | succ f => exact ⟨h.1, h.2.1⟩
theorem way_le (r : Rx) (n : Nat) : ∀ f at_ i j, wayP r n f at_ i j → i ≤ j := by
  intro f
  induction f with
  | zero => intro at_ i j h; exact h.elim
  | succ f ih =>
    intro at_ i j h
    have h := h.2.2
    split at h
    · omega
    · split at h
      · omega
      · split at h
        · exact h.elim (ih _ i j) (ih _ i j)
        · split at h
          · obtain ⟨k, h1, h2⟩ := h
            exact Nat.le_trans (ih _ i k h1) (ih _ k j h2)
          · split at h
            · exact chain_le (ih _) h
            · exact h.elim
theorem two_pow_big (n : Nat) : n < 2 ^ n := Nat.lt_two_pow_self
theorem reach_tells (r : Rx) (n : Nat) : ∀ f at_, Tells n (reachT r n f at_) (wayP r n f at_) := by
  intro f
  induction f with
  | zero => intro at_ i j _ _; exact ⟨fun h => (by cases h), fun h => h.elim⟩
  | succ f ih =>
    intro at_ i j hi hj
    unfold reachT wayP
    by_cases h1 : r.kd at_ = 18
    · rw [if_pos h1, if_pos h1, decide_eq_true_eq]
      exact ⟨fun h => ⟨hi, hj, h⟩, fun h => h.2.2⟩
    rw [if_neg h1, if_neg h1]
    by_cases h2 : r.kd at_ = 19
    · rw [if_pos h2, if_pos h2, Bool.and_eq_true, decide_eq_true_eq]
      exact ⟨fun h => ⟨hi, hj, h⟩, fun h => h.2.2⟩
    rw [if_neg h2, if_neg h2]
    by_cases h3 : r.kd at_ = 20
    · rw [if_pos h3, if_pos h3]
      unfold altT
      rw [Bool.or_eq_true, ih _ i j hi hj, ih _ i j hi hj]
      exact ⟨fun h => ⟨hi, hj, h⟩, fun h => h.2.2⟩
    rw [if_neg h3, if_neg h3]
    by_cases h4 : r.kd at_ = 21
    · rw [if_pos h4, if_pos h4, prod_tells (ih _) (ih _) (way_on r n f _) i j hi hj]
      exact ⟨fun h => ⟨hi, hj, h⟩, fun h => h.2.2⟩
    rw [if_neg h4, if_neg h4]
    by_cases h5 : r.kd at_ = 22
    · rw [if_pos h5, if_pos h5, sq_tells (way_on r n f _) (way_le r n f _) n 1 _ (by omega) (id_tells (ih _)) (by have := two_pow_big n; omega) i j hi hj]
      exact ⟨fun h => ⟨hi, hj, h⟩, fun h => h.2.2⟩
    rw [if_neg h5, if_neg h5]
    exact ⟨fun h => (by cases h), fun h => h.2.2.elim⟩
/-- Cut off on either side: the points from a on, m of them. -/
theorem chain_cut {R R' : Nat → Nat → Prop} {a m : Nat} (hF : ∀ i j, R i j → i ≤ j) (h : ∀ i j, i < m → j < m → (R' i j ↔ R (i + a) (j + a))) {i j : Nat} (hi : i < m) (hj : j < m) (hc : Chain R (i + a) (j + a)) : Chain R' i j := by
  obtain ⟨q, hc⟩ := hc
  induction q generalizing i with
  | zero =>
    have hc : i + a = j + a := hc
    obtain rfl : i = j := by omega
    exact chain_refl R' i
  | succ q ih =>
    rcases hc with e | ⟨k, h1, h2⟩
    · obtain rfl : i = j := by omega
      exact chain_refl R' i
    · have k1 := hF _ _ h1
      have k2 := h2.le hF
      obtain ⟨k', rfl⟩ : ∃ k', k = k' + a := ⟨k - a, by omega⟩
      exact chain_trans (chain_one ((h i k' hi (by omega)).2 h1)) (ih (by omega) h2)
theorem chain_into {R R' : Nat → Nat → Prop} {a m : Nat} (hO : On m R') (h : ∀ i j, i < m → j < m → (R' i j ↔ R (i + a) (j + a))) {i j : Nat} (hc : Chain R' i j) : Chain R (i + a) (j + a) := by
  obtain ⟨q, hc⟩ := hc
  induction q generalizing i with
  | zero =>
    have hc : i = j := hc
    subst hc
    exact chain_refl R _
  | succ q ih =>
    rcases hc with e | ⟨k, h1, h2⟩
    · subst e
      exact chain_refl R _
    · obtain ⟨o1, o2⟩ := hO i k h1
      exact chain_trans (chain_one ((h i k o1 o2).1 h1)) (ih h2)
end Go.Proofs.Ytcpmcgbjmncalaa.Paths

namespace Go.Proofs.Ytcpmcgbjmncalaa.Mem
open Go.RowKit Go.ChangeShapes Go.WideShapes Go.Deep Go.Proofs.Ytcpmcgbjmncalaa.Ints

def small64 (x : Int) : Prop := -9223372036854775808 ≤ x ∧ x ≤ 9223372036854775807
/-- Any block. -/
def Any : Nat → Prop := fun _ => True
theorem below_cell {w w' : World} {b o : Nat} {u : Value} (hb : Below w.heap.size w w') (h : w.cell? ⟨b, o, none⟩ = some u) : w'.cell? ⟨b, o, none⟩ = some u :=
  (hb.cell (World.block_lt_of_cell? w _ h)).trans h
theorem box_cell {w : World} {cs : Array Value} {T : TypeId} (o : Nat) (u : Value) (h : cs[o]? = some u) : (w.alloc (.cells cs T)).cell? ⟨w.heap.size, o, none⟩ = some u := by
  rw [cell_of_row _ w.heap.size o _ T (0, 0) (heap_alloc_new w _)]
  exact h
theorem below_row {w w' : World} {base : Nat} {e : TypeId} {size : Nat} {v : Value} {n : Nat} {xs : List Value} (h : w.ownsRow base e size v n xs) (hb : Below w.heap.size w w') : w'.ownsRow base e size v n xs :=
  h.kept (row := none) ⟨hb.os, hb.tape, hb.output, hb.size, fun i hi _ => hb.block i hi⟩ (by cases v.ownBlock <;> simp)
theorem below_drewN {B : Nat} {a w : World} (h : Below B a w) (n : Nat) : Below B a (w.drewN n) := ⟨h.os, h.tape, h.output, h.size, h.block⟩
theorem le_alloc {a : Nat} {w : World} {o : Obj} (h : a ≤ w.heap.size) : a ≤ (w.alloc o).heap.size := by simp; omega
theorem fcell {W w1 : World} (hb : Below W.heap.size W w1) : (∀ b o, b < W.heap.size → w1.cell? ⟨b, o, none⟩ = W.cell? ⟨b, o, none⟩) ∧ (∀ b o, b < W.heap.size → w1.frozen? ⟨b, o, none⟩ = W.frozen? ⟨b, o, none⟩) :=
  ⟨fun b o h => hb.cell (p := ⟨b, o, none⟩) h, fun b o h => hb.frozen (p := ⟨b, o, none⟩) h⟩

/-- Where a part of a slice begins. -/
def fromAddr (A : Option Addr) (cap k size : Nat) : Option Addr := if cap = k then A else A.map (·.add (k * size))
set_option maxRecDepth 100000 in
theorem slice_from {P : Program} (t : TypeId) (ht : P.underlying t = some (.slice (P.elem t))) (size : Nat) (hs : (P.info? (P.elem t)).map (·.size) = some size) (A : Option Addr) (n cap k : Nat) (hk : k ≤ n) (W : World) :
    (Instr.slice t (.slice A n cap) (some (.int .i64 (k : Int))) none none).run P W = .ok (.slice (fromAddr A cap k size) (n - k) (cap - k)) W := by
  rw [run_slice_l W t A n cap ht .i64 (k : Int) (by omega) (by omega)]
  obtain ⟨i, hi, hz⟩ := Option.map_eq_some_iff.1 hs
  simp [sizeOf, typeInfo, hi, hz, Result.andThen, sliced, fromAddr]

/-! ### rows cut short; their forms, whatever an element's cells -/
theorem own_weaken {w : World} {base base' : Nat} {e : TypeId} {size : Nat} {v : Value} {n : Nat} {xs : List Value} (h : w.ownsRow base e size v n xs) (hb : base' ≤ base) : w.ownsRow base' e size v n xs := by
  refine ⟨h.1, ?_⟩
  rcases h.2 with h2 | ⟨g, cap, cur, h3, h4, h5⟩
  · exact .inl h2
  · exact .inr ⟨g, cap, cur, h3, Nat.le_trans hb h4, h5⟩
/-! ### lists of strings -/
def strS (s : List UInt8) : Value := .string ⟨s.toArray⟩
/-- The slice of address A reads as the texts l. -/
def Strs (w : World) (A : Option Addr) (l : List (List UInt8)) : Prop :=
  0 < l.length → ∃ b off, A = some ⟨b, off, none⟩ ∧ ∀ (j : Nat) (s : List UInt8), l[j]? = some s → w.cell? ⟨b, off + j, none⟩ = some (strS s)
theorem Strs.below {w w' : World} {A : Option Addr} {l : List (List UInt8)} (h : Strs w A l) (hb : Below w.heap.size w w') : Strs w' A l := fun h0 => by
  obtain ⟨b, off, h1, h2⟩ := h h0
  exact ⟨b, off, h1, fun j s hs => below_cell hb (h2 j s hs)⟩
theorem Strs.nil (w : World) (A : Option Addr) : Strs w A [] := fun h => by simp at h
theorem Strs.take {w : World} {A : Option Addr} {l : List (List UInt8)} (h : Strs w A l) (k : Nat) : Strs w A (l.take k) := fun h0 => by
  rw [List.length_take] at h0
  obtain ⟨b, off, h1, h2⟩ := h (by omega)
  refine ⟨b, off, h1, fun j s hs => h2 j s ?_⟩
  by_cases hj : j < k
  · rwa [List.getElem?_take_of_lt hj] at hs
  · rw [List.getElem?_eq_none (by rw [List.length_take]; omega)] at hs
    cases hs
end Go.Proofs.Ytcpmcgbjmncalaa.Mem

namespace Go.Proofs.Ytcpmcgbjmncalaa.Mem
open Go.RowKit Go.Proofs.Ytcpmcgbjmncalaa.Ints

/-! ### a block -/
/-- The block g begins with the cells vs. -/
def Blk (w : World) (g : Nat) (vs : List Value) : Prop := g < w.heap.size ∧ ∀ (k : Nat) (v : Value), vs[k]? = some v → w.cell? ⟨g, k, none⟩ = some v ∧ w.frozen? ⟨g, k, none⟩ = false
theorem Blk.cell {w : World} {g : Nat} {vs : List Value} (h : Blk w g vs) (k : Nat) {v : Value} (hv : vs[k]? = some v) : w.cell? ⟨g, k, none⟩ = some v := (h.2 k v hv).1
theorem Blk.fz {w : World} {g : Nat} {vs : List Value} (h : Blk w g vs) (k : Nat) {v : Value} (hv : vs[k]? = some v) : w.frozen? ⟨g, k, none⟩ = false := (h.2 k v hv).2
theorem Blk.same {w w' : World} {g : Nat} {vs : List Value} (h : Blk w g vs) (hs : w.heap.size ≤ w'.heap.size) (hb : w'.heap[g]? = w.heap[g]?) : Blk w' g vs :=
  ⟨Nat.lt_of_lt_of_le h.1 hs, fun k _ hv => ⟨(World.cell?_of_block (w := w) (a := ⟨g, k, none⟩) hb).trans (h.cell k hv), (World.frozen?_of_block (w := w) (a := ⟨g, k, none⟩) hb).trans (h.fz k hv)⟩⟩
theorem Blk.below {B : Nat} {w w' : World} {g : Nat} {vs : List Value} (h : Blk w g vs) (hb : Below B w w') (hg : g < B) : Blk w' g vs := h.same hb.size (hb.block g hg)
theorem Blk.later {w w' : World} {g : Nat} {vs : List Value} (h : Blk w g vs) (hb : Below w.heap.size w w') : Blk w' g vs := h.below hb h.1
theorem Blk.alloc {w : World} {g : Nat} {vs : List Value} (h : Blk w g vs) (o : Obj) : Blk (w.alloc o) g vs := h.later ((Below.refl _ _).alloc (Nat.le_refl _) _)
theorem Blk.grown {w w' : World} {g : Nat} {vs : List Value} {row : Option Nat} (h : Blk w g vs) (hg : w.grownBy w' row) (hne : some g ≠ row) : Blk w' g vs := h.same hg.size (hg.block g h.1 hne)
theorem Blk.set {w : World} {g : Nat} {vs : List Value} (h : Blk w g vs) (k : Nat) (u : Value) (hk : k < vs.length) : Blk (w.setCell ⟨g, k, none⟩ u) g (vs.set k u) := by
  refine ⟨by simpa using h.1, fun j v hv => ⟨?_, ?_⟩⟩
  · rw [List.getElem?_set] at hv
    by_cases e : k = j
    · subst e
      rw [if_pos rfl, if_pos hk] at hv
      cases hv
      exact World.cell?_setCell_same _ _ _ (h.cell k (List.getElem?_eq_getElem hk))
    · rw [if_neg e] at hv
      exact (World.cell?_setCell_other _ _ _ _ (fun e' => e (by injection e'))).trans (h.cell j hv)
  · rw [World.frozen?_setCell]
    rw [List.getElem?_set] at hv
    by_cases e : k = j
    · subst e
      exact h.fz k (List.getElem?_eq_getElem hk)
    · rw [if_neg e] at hv
      exact h.fz j hv
theorem Blk.other {w : World} {g : Nat} {vs : List Value} (h : Blk w g vs) (p : Addr) (u : Value) (hp : g ≠ p.block) : Blk (w.setCell p u) g vs := h.same (by simp) (Below.heap_setCell w p u g hp)
theorem Blk.drew {w : World} {g : Nat} {vs : List Value} (h : Blk w g vs) : Blk w.drew g vs := h
theorem Blk.drewN {w : World} {g : Nat} {vs : List Value} (h : Blk w g vs) (n : Nat) : Blk (w.drewN n) g vs := h
theorem Blk.new (w : World) (cs : Array Value) (T : TypeId) (vs : List Value) (hv : cs.toList = vs) : Blk (w.alloc (.cells cs T)) w.heap.size vs := by
  subst hv
  refine ⟨by simp, fun k v hk => ⟨?_, ?_⟩⟩
  · rw [cell_of_row _ w.heap.size k _ T (0, 0) (heap_alloc_new w _)]
    simpa using hk
  · exact World.frozen?_alloc_new _ _ _ _
end Go.Proofs.Ytcpmcgbjmncalaa.Mem

namespace Go.Proofs.Ytcpmcgbjmncalaa.Src
open Go.RowKit Go.Proofs.Ytcpmcgbjmncalaa.Ints Go.Proofs.Ytcpmcgbjmncalaa.Mem

theorem rd_grown {k : IntKind} {w w' : World} {A : Option Addr} {n : Nat} {zs : List Int} {row : Option Nat} (h : Rd k w A n zs) (hg : w.grownBy w' row) (hne : ∀ a, A = some a → 0 < n → some a.block ≠ row) : Rd k w' A n zs := by
  rcases Nat.eq_zero_or_pos n with h0 | h0
  · subst h0
    rw [List.eq_nil_of_length_eq_zero h.len]
    exact Rd.nil _ _ _
  · exact h.grown hg (fun a e => hne a e h0)
theorem rd_lt {k : IntKind} {w : World} {A : Option Addr} {n : Nat} {zs : List Int} (h : Rd k w A n zs) : ∀ a, A = some a → 0 < n → a.block < w.heap.size := by
  intro a e h0
  obtain ⟨b, off, e2, hc⟩ := h.cell h0
  rw [e] at e2
  injection e2 with e2
  subst e2
  exact World.block_lt_of_cell? w _ (hc 0 h0)
/-- A source of four cells in the block g: bytes, script, fault, how many Reads told bytes; what the first two read as lies in blocks of S. -/
structure Src4 (S : Nat → Prop) (w : World) (g : Nat) (bs sc : List Int) (f N : Nat) : Prop where
  ex : ∃ A c B d, Blk w g [.slice A bs.length c, .slice B sc.length d, .int .i64 (f : Nat), .int .i64 (N : Nat)] ∧ Rd .u8 w A bs.length bs ∧ bs.length ≤ c ∧ c ≤ maxLen ∧ Rd .i64 w B sc.length sc ∧ sc.length ≤ maxLen ∧
    (∀ a, A = some a → 0 < bs.length → S a.block) ∧ (∀ a, B = some a → 0 < sc.length → S a.block)
  ne : ¬ S g
  le : f ≤ bs.length
theorem Src4.lt {S : Nat → Prop} {w : World} {g : Nat} {bs sc : List Int} {f N : Nat} (h : Src4 S w g bs sc f N) : g < w.heap.size := by
  obtain ⟨A, c, B, d, h1, -⟩ := h.ex
  exact h1.1
theorem Src4.kept {S : Nat → Prop} {w w' : World} {g : Nat} {bs sc : List Int} {f N : Nat} {row : Option Nat} (h : Src4 S w g bs sc f N) (hg : w.grownBy w' row) (hne : some g ≠ row) (hS : ∀ b, S b → some b ≠ row) : Src4 S w' g bs sc f N := by
  obtain ⟨A, c, B, d, h1, h2, h3, h4, h5, h6, h7, h8⟩ := h.ex
  exact ⟨⟨A, c, B, d, h1.grown hg hne, rd_grown h2 hg (fun a e h0 => hS _ (h7 a e h0)), h3, h4, rd_grown h5 hg (fun a e h0 => hS _ (h8 a e h0)), h6, h7, h8⟩, h.ne, h.le⟩
theorem Src4.below {S : Nat → Prop} {w w' : World} {g : Nat} {bs sc : List Int} {f N : Nat} (h : Src4 S w g bs sc f N) (hb : Below w.heap.size w w') : Src4 S w' g bs sc f N := by
  obtain ⟨A, c, B, d, h1, h2, h3, h4, h5, h6, h7, h8⟩ := h.ex
  exact ⟨⟨A, c, B, d, h1.later hb, h2.below hb, h3, h4, h5.below hb, h6, h7, h8⟩, h.ne, h.le⟩
theorem Src4.mono {S S' : Nat → Prop} {w : World} {g : Nat} {bs sc : List Int} {f N : Nat} (h : Src4 S w g bs sc f N) (hs : ∀ b, S b → S' b) (hg : ¬ S' g) : Src4 S' w g bs sc f N := by
  obtain ⟨A, c, B, d, h1, h2, h3, h4, h5, h6, h7, h8⟩ := h.ex
  exact ⟨⟨A, c, B, d, h1, h2, h3, h4, h5, h6, fun a e h0 => hs _ (h7 a e h0), fun a e h0 => hs _ (h8 a e h0)⟩, hg, h.le⟩
theorem grown_cell (w : World) (p : Addr) (u : Value) : w.grownBy (w.setCell p u) (some p.block) :=
  ⟨rfl, rfl, rfl, by simp [World.setCell], fun k _ hne => Below.heap_setCell w p u k (fun e => hne (by rw [e]))⟩
/-- One Read more. -/
theorem Src4.step {S : Nat → Prop} {w : World} {g : Nat} {bs sc : List Int} {f N : Nat} (h : Src4 S w g bs sc f N) : Src4 S (w.setCell ⟨g, 3, none⟩ (.int .i64 ((N : Int) + 1))) g bs sc f (N + 1) := by
  obtain ⟨A, c, B, d, h1, h2, h3, h4, h5, h6, h7, h8⟩ := h.ex
  have hgr := grown_cell w ⟨g, 3, none⟩ (.int .i64 ((N : Int) + 1))
  have off : ∀ a : Addr, S a.block → some a.block ≠ some g := fun a ha e => by
    injection e with e
    rw [e] at ha
    exact h.ne ha
  have hst := h1.set 3 (.int .i64 ((N : Int) + 1)) (by simp)
  refine ⟨⟨A, c, B, d, ?_, rd_grown h2 hgr (fun a e h0 => off a (h7 a e h0)), h3, h4, rd_grown h5 hgr (fun a e h0 => off a (h8 a e h0)), h6, h7, h8⟩, h.ne, h.le⟩
  have e : ((N + 1 : Nat) : Int) = (N : Int) + 1 := by omega
  rw [e]
  simpa using hst
end Go.Proofs.Ytcpmcgbjmncalaa.Src
