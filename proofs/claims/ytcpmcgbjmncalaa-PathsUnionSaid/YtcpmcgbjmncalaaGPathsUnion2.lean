/-
  What walks over memory share, whatever the program: fields of structs that came in, cells behind later blocks, parts of slices, a block cell by cell, strings in rows. By an AI agent.
  A block of memory, cell by cell. By an AI agent.
  A source of bytes as plain lists: what a Read tells. A block of the reference's source. By an AI agent.
  Tables of bools in memory (stage 14): rows of their own; the walk of the reference's square. By an AI agent.
  The walks of the reference's number and square (stage 14). By an AI agent.
-/
import Derived.Test.YtcpmcgbjmncalaaChecked
import Derived.WalkKit
import Derived.WalkSpells
import Derived.Below
import Derived.Lib.Hide
import Derived.Test.YtcpmcgbjmncalaaGPathsUnion1
import Derived.Deep.Slices
import Derived.Deep.Fields
import Derived.ChangeSame
import Derived.ChangeArms
import Derived.ChangeSlices
import Derived.IntWalk
import Derived.Deep.QuietTactic
import Derived.BigQuiet
import Derived.Maps.AppendAt
import Derived.Laws.AppendOwnNone
import Derived.OwnWalk
namespace Go.Proofs.Ytcpmcgbjmncalaa.Mem
open Go.RowKit Go.ChangeShapes Go.WideShapes Go.Deep Go.Proofs.Ytcpmcgbjmncalaa.Ints

def small64 (x : Int) : Prop := -9223372036854775808 ≤ x ∧ x ≤ 9223372036854775807
/-- Any block. -/
def Any : Nat → Prop := fun _ => True
theorem below_cell {w w' : World} {b o : Nat} {u : Value} (hb : Below w.heap.size w w') (h : w.cell? ⟨b, o, none⟩ = some u) : w'.cell? ⟨b, o, none⟩ = some u :=
  (hb.cell (World.block_lt_of_cell? w _ h)).trans h
theorem box_cell {w : World} {cs : Array Value} {T : TypeId} (o : Nat) (u : Value) (h : cs[o]? = some u) : (w.alloc (.cells cs T)).cell? ⟨w.heap.size, o, none⟩ = some u := by
  rw [cell_of_row _ w.heap.size o _ T (0, 0) (heap_alloc_new w _)]
  exact h
theorem below_row {w w' : World} {base : Nat} {e : TypeId} {size : Nat} {v : Value} {n : Nat} {xs : List Value} (h : w.ownsRow base e size v n xs) (hb : Below w.heap.size w w') : w'.ownsRow base e size v n xs :=
  h.kept (row := none) ⟨hb.os, hb.tape, hb.output, hb.size, fun i hi _ => hb.block i hi⟩ (by cases v.ownBlock <;> simp)
theorem below_drewN {B : Nat} {a w : World} (h : Below B a w) (n : Nat) : Below B a (w.drewN n) := ⟨h.os, h.tape, h.output, h.size, h.block⟩
theorem le_alloc {a : Nat} {w : World} {o : Obj} (h : a ≤ w.heap.size) : a ≤ (w.alloc o).heap.size := by simp; omega
theorem fcell {W w1 : World} (hb : Below W.heap.size W w1) : (∀ b o, b < W.heap.size → w1.cell? ⟨b, o, none⟩ = W.cell? ⟨b, o, none⟩) ∧ (∀ b o, b < W.heap.size → w1.frozen? ⟨b, o, none⟩ = W.frozen? ⟨b, o, none⟩) :=
  ⟨fun b o h => hb.cell (p := ⟨b, o, none⟩) h, fun b o h => hb.frozen (p := ⟨b, o, none⟩) h⟩

/-- Where a part of a slice begins. -/
def fromAddr (A : Option Addr) (cap k size : Nat) : Option Addr := if cap = k then A else A.map (·.add (k * size))
set_option maxRecDepth 100000 in
theorem slice_from {P : Program} (t : TypeId) (ht : P.underlying t = some (.slice (P.elem t))) (size : Nat) (hs : (P.info? (P.elem t)).map (·.size) = some size) (A : Option Addr) (n cap k : Nat) (hk : k ≤ n) (W : World) :
    (Instr.slice t (.slice A n cap) (some (.int .i64 (k : Int))) none none).run P W = .ok (.slice (fromAddr A cap k size) (n - k) (cap - k)) W := by
  rw [run_slice_l W t A n cap ht .i64 (k : Int) (by omega) (by omega)]
  obtain ⟨i, hi, hz⟩ := Option.map_eq_some_iff.1 hs
  simp [sizeOf, typeInfo, hi, hz, Result.andThen, sliced, fromAddr]

set_option maxRecDepth 100000 in
theorem slice_upto {P : Program} (t : TypeId) (ht : P.underlying t = some (.slice (P.elem t))) (size : Nat) (hs : (P.info? (P.elem t)).map (·.size) = some size) (A : Option Addr) (n cap k : Nat) (hk : k ≤ cap) (W : World) :
    (Instr.slice t (.slice A n cap) none (some (.int .i64 (k : Int))) none).run P W = .ok (.slice A k cap) W := by
  rw [run_slice_h W t A n cap ht .i64 (k : Int) (by omega) (by omega)]
  obtain ⟨i, hi, hz⟩ := Option.map_eq_some_iff.1 hs
  cases A with
  | none => simp [sizeOf, typeInfo, hi, hz, Result.andThen, sliced]
  | some a => by_cases hc : cap = 0 <;> simp [sizeOf, typeInfo, hi, hz, Result.andThen, sliced, Addr.add, hc]

/-! ### rows cut short; their forms, whatever an element's cells -/
theorem own_weaken {w : World} {base base' : Nat} {e : TypeId} {size : Nat} {v : Value} {n : Nat} {xs : List Value} (h : w.ownsRow base e size v n xs) (hb : base' ≤ base) : w.ownsRow base' e size v n xs := by
  refine ⟨h.1, ?_⟩
  rcases h.2 with h2 | ⟨g, cap, cur, h3, h4, h5⟩
  · exact .inl h2
  · exact .inr ⟨g, cap, cur, h3, Nat.le_trans hb h4, h5⟩
/-! ### lists of strings -/
def strS (s : List UInt8) : Value := .string ⟨s.toArray⟩
/-- The slice of address A reads as the texts l. -/
def Strs (w : World) (A : Option Addr) (l : List (List UInt8)) : Prop :=
  0 < l.length → ∃ b off, A = some ⟨b, off, none⟩ ∧ ∀ (j : Nat) (s : List UInt8), l[j]? = some s → w.cell? ⟨b, off + j, none⟩ = some (strS s)
theorem Strs.below {w w' : World} {A : Option Addr} {l : List (List UInt8)} (h : Strs w A l) (hb : Below w.heap.size w w') : Strs w' A l := fun h0 => by
  obtain ⟨b, off, h1, h2⟩ := h h0
  exact ⟨b, off, h1, fun j s hs => below_cell hb (h2 j s hs)⟩
theorem Strs.nil (w : World) (A : Option Addr) : Strs w A [] := fun h => by simp at h
theorem Strs.take {w : World} {A : Option Addr} {l : List (List UInt8)} (h : Strs w A l) (k : Nat) : Strs w A (l.take k) := fun h0 => by
  rw [List.length_take] at h0
  obtain ⟨b, off, h1, h2⟩ := h (by omega)
  refine ⟨b, off, h1, fun j s hs => h2 j s ?_⟩
  by_cases hj : j < k
  · rwa [List.getElem?_take_of_lt hj] at hs
  · rw [List.getElem?_eq_none (by rw [List.length_take]; omega)] at hs
    cases hs
end Go.Proofs.Ytcpmcgbjmncalaa.Mem

namespace Go.Proofs.Ytcpmcgbjmncalaa.Mem
open Go.RowKit Go.Proofs.Ytcpmcgbjmncalaa.Ints

/-! ### a block -/
/-- The block g begins with the cells vs. -/
def Blk (w : World) (g : Nat) (vs : List Value) : Prop := g < w.heap.size ∧ ∀ (k : Nat) (v : Value), vs[k]? = some v → w.cell? ⟨g, k, none⟩ = some v ∧ w.frozen? ⟨g, k, none⟩ = false
theorem Blk.cell {w : World} {g : Nat} {vs : List Value} (h : Blk w g vs) (k : Nat) {v : Value} (hv : vs[k]? = some v) : w.cell? ⟨g, k, none⟩ = some v := (h.2 k v hv).1
theorem Blk.fz {w : World} {g : Nat} {vs : List Value} (h : Blk w g vs) (k : Nat) {v : Value} (hv : vs[k]? = some v) : w.frozen? ⟨g, k, none⟩ = false := (h.2 k v hv).2
theorem Blk.same {w w' : World} {g : Nat} {vs : List Value} (h : Blk w g vs) (hs : w.heap.size ≤ w'.heap.size) (hb : w'.heap[g]? = w.heap[g]?) : Blk w' g vs :=
  ⟨Nat.lt_of_lt_of_le h.1 hs, fun k _ hv => ⟨(World.cell?_of_block (w := w) (a := ⟨g, k, none⟩) hb).trans (h.cell k hv), (World.frozen?_of_block (w := w) (a := ⟨g, k, none⟩) hb).trans (h.fz k hv)⟩⟩
theorem Blk.below {B : Nat} {w w' : World} {g : Nat} {vs : List Value} (h : Blk w g vs) (hb : Below B w w') (hg : g < B) : Blk w' g vs := h.same hb.size (hb.block g hg)
theorem Blk.later {w w' : World} {g : Nat} {vs : List Value} (h : Blk w g vs) (hb : Below w.heap.size w w') : Blk w' g vs := h.below hb h.1
theorem Blk.alloc {w : World} {g : Nat} {vs : List Value} (h : Blk w g vs) (o : Obj) : Blk (w.alloc o) g vs := h.later ((Below.refl _ _).alloc (Nat.le_refl _) _)
theorem Blk.grown {w w' : World} {g : Nat} {vs : List Value} {row : Option Nat} (h : Blk w g vs) (hg : w.grownBy w' row) (hne : some g ≠ row) : Blk w' g vs := h.same hg.size (hg.block g h.1 hne)
theorem Blk.set {w : World} {g : Nat} {vs : List Value} (h : Blk w g vs) (k : Nat) (u : Value) (hk : k < vs.length) : Blk (w.setCell ⟨g, k, none⟩ u) g (vs.set k u) := by
  refine ⟨by simpa using h.1, fun j v hv => ⟨?_, ?_⟩⟩
  · rw [List.getElem?_set] at hv
    by_cases e : k = j
    · subst e
      rw [if_pos rfl, if_pos hk] at hv
      cases hv
      exact World.cell?_setCell_same _ _ _ (h.cell k (List.getElem?_eq_getElem hk))
    · rw [if_neg e] at hv
      exact (World.cell?_setCell_other _ _ _ _ (fun e' => e (by injection e'))).trans (h.cell j hv)
  · rw [World.frozen?_setCell]
    rw [List.getElem?_set] at hv
    by_cases e : k = j
    · subst e
      exact h.fz k (List.getElem?_eq_getElem hk)
    · rw [if_neg e] at hv
      exact h.fz j hv
theorem Blk.other {w : World} {g : Nat} {vs : List Value} (h : Blk w g vs) (p : Addr) (u : Value) (hp : g ≠ p.block) : Blk (w.setCell p u) g vs := h.same (by simp) (Below.heap_setCell w p u g hp)
theorem Blk.drew {w : World} {g : Nat} {vs : List Value} (h : Blk w g vs) : Blk w.drew g vs := h
theorem Blk.drewN {w : World} {g : Nat} {vs : List Value} (h : Blk w g vs) (n : Nat) : Blk (w.drewN n) g vs := h
theorem Blk.new (w : World) (cs : Array Value) (T : TypeId) (vs : List Value) (hv : cs.toList = vs) : Blk (w.alloc (.cells cs T)) w.heap.size vs := by
  subst hv
  refine ⟨by simp, fun k v hk => ⟨?_, ?_⟩⟩
  · rw [cell_of_row _ w.heap.size k _ T (0, 0) (heap_alloc_new w _)]
    simpa using hk
  · exact World.frozen?_alloc_new _ _ _ _
end Go.Proofs.Ytcpmcgbjmncalaa.Mem

namespace Go.Proofs.Ytcpmcgbjmncalaa.Src
open Go.RowKit Go.Proofs.Ytcpmcgbjmncalaa.Ints Go.Proofs.Ytcpmcgbjmncalaa.Mem

theorem rd_grown {k : IntKind} {w w' : World} {A : Option Addr} {n : Nat} {zs : List Int} {row : Option Nat} (h : Rd k w A n zs) (hg : w.grownBy w' row) (hne : ∀ a, A = some a → 0 < n → some a.block ≠ row) : Rd k w' A n zs := by
  rcases Nat.eq_zero_or_pos n with h0 | h0
  · subst h0
    rw [List.eq_nil_of_length_eq_zero h.len]
    exact Rd.nil _ _ _
  · exact h.grown hg (fun a e => hne a e h0)
theorem rd_lt {k : IntKind} {w : World} {A : Option Addr} {n : Nat} {zs : List Int} (h : Rd k w A n zs) : ∀ a, A = some a → 0 < n → a.block < w.heap.size := by
  intro a e h0
  obtain ⟨b, off, e2, hc⟩ := h.cell h0
  rw [e] at e2
  injection e2 with e2
  subst e2
  exact World.block_lt_of_cell? w _ (hc 0 h0)
/-- A source of four cells in the block g: bytes, script, fault, how many Reads told bytes; what the first two read as lies in blocks of S. -/
structure Src4 (S : Nat → Prop) (w : World) (g : Nat) (bs sc : List Int) (f N : Nat) : Prop where
  ex : ∃ A c B d, Blk w g [.slice A bs.length c, .slice B sc.length d, .int .i64 (f : Nat), .int .i64 (N : Nat)] ∧ Rd .u8 w A bs.length bs ∧ bs.length ≤ c ∧ c ≤ maxLen ∧ Rd .i64 w B sc.length sc ∧ sc.length ≤ maxLen ∧
    (∀ a, A = some a → 0 < bs.length → S a.block) ∧ (∀ a, B = some a → 0 < sc.length → S a.block)
  ne : ¬ S g
  le : f ≤ bs.length
theorem Src4.lt {S : Nat → Prop} {w : World} {g : Nat} {bs sc : List Int} {f N : Nat} (h : Src4 S w g bs sc f N) : g < w.heap.size := by
  obtain ⟨A, c, B, d, h1, -⟩ := h.ex
  exact h1.1
theorem Src4.kept {S : Nat → Prop} {w w' : World} {g : Nat} {bs sc : List Int} {f N : Nat} {row : Option Nat} (h : Src4 S w g bs sc f N) (hg : w.grownBy w' row) (hne : some g ≠ row) (hS : ∀ b, S b → some b ≠ row) : Src4 S w' g bs sc f N := by
  obtain ⟨A, c, B, d, h1, h2, h3, h4, h5, h6, h7, h8⟩ := h.ex
  exact ⟨⟨A, c, B, d, h1.grown hg hne, rd_grown h2 hg (fun a e h0 => hS _ (h7 a e h0)), h3, h4, rd_grown h5 hg (fun a e h0 => hS _ (h8 a e h0)), h6, h7, h8⟩, h.ne, h.le⟩
theorem Src4.below {S : Nat → Prop} {w w' : World} {g : Nat} {bs sc : List Int} {f N : Nat} (h : Src4 S w g bs sc f N) (hb : Below w.heap.size w w') : Src4 S w' g bs sc f N := by
  obtain ⟨A, c, B, d, h1, h2, h3, h4, h5, h6, h7, h8⟩ := h.ex
  exact ⟨⟨A, c, B, d, h1.later hb, h2.below hb, h3, h4, h5.below hb, h6, h7, h8⟩, h.ne, h.le⟩
theorem Src4.mono {S S' : Nat → Prop} {w : World} {g : Nat} {bs sc : List Int} {f N : Nat} (h : Src4 S w g bs sc f N) (hs : ∀ b, S b → S' b) (hg : ¬ S' g) : Src4 S' w g bs sc f N := by
  obtain ⟨A, c, B, d, h1, h2, h3, h4, h5, h6, h7, h8⟩ := h.ex
  exact ⟨⟨A, c, B, d, h1, h2, h3, h4, h5, h6, fun a e h0 => hs _ (h7 a e h0), fun a e h0 => hs _ (h8 a e h0)⟩, hg, h.le⟩
theorem grown_cell (w : World) (p : Addr) (u : Value) : w.grownBy (w.setCell p u) (some p.block) :=
  ⟨rfl, rfl, rfl, by simp [World.setCell], fun k _ hne => Below.heap_setCell w p u k (fun e => hne (by rw [e]))⟩
/-- One Read more. -/
theorem Src4.step {S : Nat → Prop} {w : World} {g : Nat} {bs sc : List Int} {f N : Nat} (h : Src4 S w g bs sc f N) : Src4 S (w.setCell ⟨g, 3, none⟩ (.int .i64 ((N : Int) + 1))) g bs sc f (N + 1) := by
  obtain ⟨A, c, B, d, h1, h2, h3, h4, h5, h6, h7, h8⟩ := h.ex
  have hgr := grown_cell w ⟨g, 3, none⟩ (.int .i64 ((N : Int) + 1))
  have off : ∀ a : Addr, S a.block → some a.block ≠ some g := fun a ha e => by
    injection e with e
    rw [e] at ha
    exact h.ne ha
  have hst := h1.set 3 (.int .i64 ((N : Int) + 1)) (by simp)
  refine ⟨⟨A, c, B, d, ?_, rd_grown h2 hgr (fun a e h0 => off a (h7 a e h0)), h3, h4, rd_grown h5 hgr (fun a e h0 => off a (h8 a e h0)), h6, h7, h8⟩, h.ne, h.le⟩
  have e : ((N + 1 : Nat) : Int) = (N : Int) + 1 := by omega
  rw [e]
  simpa using hst
end Go.Proofs.Ytcpmcgbjmncalaa.Src

namespace Go.Proofs.Ytcpmcgbjmncalaa.Paths
open Go.RowKit Go.Proofs.Ytcpmcgbjmncalaa.Ints Go.Proofs.Ytcpmcgbjmncalaa.Mem Go.Proofs.Ytcpmcgbjmncalaa.Src

theorem infoBl : (Try.prog.info? 4).map (fun i => (i.zero, i.size, i.bytes)) = some (some (.bool false), 1, 1) := by kernel_rfl
theorem infoBs : (Try.prog.info? 44).map (fun i => (i.zero, i.size, i.bytes)) = some (some (.slice none 0 0), 1, 24) := by kernel_rfl
/-- A row of a table. -/
def rowT (n : Nat) (m : Tb) (i : Nat) : List Value := (List.range n).map fun j => .bool (m i j)
theorem rowT_len (n : Nat) (m : Tb) (i : Nat) : (rowT n m i).length = n := by simp [rowT]
theorem rowT_at {n : Nat} {m : Tb} {i j : Nat} (h : j < n) : (rowT n m i)[j]? = some (.bool (m i j)) := by
  unfold rowT
  rw [List.getElem?_map, List.getElem?_range h]
  rfl
/-- A table in memory: its slice in the block B, its rows in the blocks R, all from lo on. -/
structure Tab (w : World) (lo B : Nat) (R : Nat → Nat) (n : Nat) (m : Tb) : Prop where
  out : w.ownsRow lo 44 1 (.slice (some ⟨B, 0, none⟩) n n) n ((List.range n).map fun i => .slice (some ⟨R i, 0, none⟩) n n)
  row : ∀ i, i < n → w.ownsRow lo 4 1 (.slice (some ⟨R i, 0, none⟩) n n) n (rowT n m i)
  off : ∀ i, i < n → R i ≠ B ∧ ∀ j, j < n → R i = R j → i = j
theorem Tab.outer {w : World} {lo B : Nat} {R : Nat → Nat} {n : Nat} {m : Tb} (h : Tab w lo B R n m) {i : Nat} (hi : i < n) : w.cell? ⟨B, i, none⟩ = some (.slice (some ⟨R i, 0, none⟩) n n) := by
  have := h.out.cells (g := B) rfl i (.slice (some ⟨R i, 0, none⟩) n n) (by rw [List.getElem?_map, List.getElem?_range hi]; rfl)
  rwa [Addr.add_lit, Nat.zero_add] at this
theorem Tab.inner {w : World} {lo B : Nat} {R : Nat → Nat} {n : Nat} {m : Tb} (h : Tab w lo B R n m) {i j : Nat} (hi : i < n) (hj : j < n) : w.cell? ⟨R i, j, none⟩ = some (.bool (m i j)) := by
  have := (h.row i hi).cells (g := R i) rfl j (.bool (m i j)) (rowT_at hj)
  rwa [Addr.add_lit, Nat.zero_add] at this
theorem own_fz {w : World} {B : Nat} {e : TypeId} {size r n c : Nat} {xs : List Value} (h : w.ownsRow B e size (.slice (some ⟨r, 0, none⟩) n c) n xs) (k : Nat) : w.frozen? ⟨r, k, none⟩ = false := by
  rcases h.2 with ⟨e1, -⟩ | ⟨g', c', cur, e1, hB, hg, -⟩
  · cases e1
  · injection e1 with e1 e2 e3
    injection e1 with e1
    injection e1 with e1 _ _
    subst e1
    simp [World.frozen?, hg]
theorem own_put {w : World} {B : Nat} {e : TypeId} {size r n c k : Nat} {xs : List Value} (h : w.ownsRow B e size (.slice (some ⟨r, 0, none⟩) n c) n xs) (u : Value) : (w.setCell ⟨r, k, none⟩ u).ownsRow B e size (.slice (some ⟨r, 0, none⟩) n c) n (xs.set k u) := by
  rcases h.2 with ⟨e1, -⟩ | ⟨g', c', cur, e1, hB, hg, hnc, hcm, hcs, htk⟩
  · cases e1
  · injection e1 with e1 e2 e3
    injection e1 with e1
    injection e1 with e1 _ _
    subst e1
    subst e3
    have hs := setCell_eq_setRow w r k cur e (0, 0) u hg
    have hg2 := setRow_heap w r cur (cur.setIfInBounds k u) e (0, 0) hg
    rw [← hs] at hg2
    refine ⟨by rw [List.length_set]; exact h.1, .inr ⟨r, c, _, rfl, hB, hg2, hnc, hcm, by simpa using hcs, ?_⟩⟩
    rw [Array.toList_setIfInBounds, List.take_set, htk]
theorem Tab.kept {w w' : World} {lo B : Nat} {R : Nat → Nat} {n : Nat} {m : Tb} (h : Tab w lo B R n m) (hb : w'.heap[B]? = w.heap[B]?) (hr : ∀ i, i < n → w'.heap[R i]? = w.heap[R i]?) : Tab w' lo B R n m := by
  have go : ∀ {e : TypeId} {r : Nat} {xs : List Value}, w'.heap[r]? = w.heap[r]? → w.ownsRow lo e 1 (.slice (some ⟨r, 0, none⟩) n n) n xs → w'.ownsRow lo e 1 (.slice (some ⟨r, 0, none⟩) n n) n xs := fun hq h => by
    refine ⟨h.1, ?_⟩
    rcases h.2 with h2 | ⟨g, cap, cur, e1, h4, h5, h6⟩
    · exact .inl h2
    · injection e1 with e1 e2 e3
      injection e1 with e1
      injection e1 with e1 _ _
      subst e1
      subst e3
      exact .inr ⟨_, _, cur, rfl, h4, hq.trans h5, h6⟩
  exact ⟨go hb h.out, fun i hi => go (hr i hi) (h.row i hi), h.off⟩
theorem Tab.below {w w' : World} {lo B : Nat} {R : Nat → Nat} {n : Nat} {m : Tb} (h : Tab w lo B R n m) (hb : Below w.heap.size w w') : Tab w' lo B R n m :=
  h.kept (hb.block B (h.out.lt B rfl).2) (fun i hi => hb.block _ ((h.row i hi).lt _ rfl).2)
def updT (m : Tb) (i j : Nat) (x : Bool) : Tb := fun a b => if a = i ∧ b = j then x else m a b
theorem Tab.ext {w : World} {lo B : Nat} {R : Nat → Nat} {n : Nat} {m m' : Tb} (h : Tab w lo B R n m) (he : ∀ i j, i < n → j < n → m i j = m' i j) : Tab w lo B R n m' := by
  refine ⟨h.out, fun i hi => ?_, h.off⟩
  have e : rowT n m i = rowT n m' i := by
    unfold rowT
    apply List.map_congr_left
    intro j hj
    rw [he i j hi (List.mem_range.1 hj)]
  rw [← e]
  exact h.row i hi
/-- One place is stored into. -/
theorem Tab.set {w : World} {lo B : Nat} {R : Nat → Nat} {n : Nat} {m : Tb} (h : Tab w lo B R n m) {i j : Nat} (hi : i < n) (hj : j < n) (x : Bool) : Tab (w.setCell ⟨R i, j, none⟩ (.bool x)) lo B R n (updT m i j x) := by
  have hother : ∀ r, r ≠ R i → (w.setCell ⟨R i, j, none⟩ (.bool x)).heap[r]? = w.heap[r]? := fun r hr => Below.heap_setCell w _ _ r hr
  have k := h.kept (w' := w)
  obtain ⟨hiB, hinj⟩ := h.off i hi
  refine ⟨?_, fun a ha => ?_, h.off⟩
  · exact h.out.kept (grown_cell w ⟨R i, j, none⟩ (.bool x)) (.inr (fun e => by injection e with e; exact hiB e.symm))
  · by_cases ea : a = i
    · subst ea
      have h1 := own_put (k := j) (h.row a ha) (.bool x)
      have e : (rowT n m a).set j (.bool x) = rowT n (updT m a j x) a := by
        apply List.ext_getElem?
        intro q
        rw [List.getElem?_set, rowT_len]
        by_cases hq : q < n
        · rw [rowT_at hq, rowT_at hq]
          unfold updT
          by_cases e : j = q
          · subst e
            rw [if_pos rfl, if_pos hq, if_pos ⟨rfl, rfl⟩]
          · rw [if_neg e, if_neg (fun e2 => e e2.2.symm)]
        · have hn : ∀ mm : Tb, (rowT n mm a)[q]? = none := fun mm => List.getElem?_eq_none (by rw [rowT_len]; omega)
          rw [hn, hn]
          by_cases e : j = q
          · rw [if_pos e, if_neg (by omega)]
          · rw [if_neg e]
      rw [e] at h1
      exact h1
    · have e : rowT n (updT m i j x) a = rowT n m a := by
        unfold rowT
        apply List.map_congr_left
        intro q _
        unfold updT
        rw [if_neg (fun e => ea e.1)]
      rw [e]
      exact (h.row a ha).kept (grown_cell w ⟨R i, j, none⟩ (.bool x)) (.inr (fun e => by injection e with e; exact ea (hinj a ha e.symm).symm))
theorem made_bools (n : Nat) : (madeCells (Value.bool false).cells (n * 1)).toList = List.replicate n (.bool false) := by
  rw [Nat.mul_one]
  have e : (Value.bool false).cells = #[.bool false] := rfl
  rw [e]
  apply List.ext_getElem
  · simp [madeCells]
  · intro i h1 h2
    simp [madeCells, Nat.mod_one]
theorem made_slices (n : Nat) : (madeCells (Value.slice none 0 0).cells (n * 1)).toList = List.replicate n (.slice none 0 0) := by
  rw [Nat.mul_one]
  have e : (Value.slice none 0 0).cells = #[.slice none 0 0] := rfl
  rw [e]
  apply List.ext_getElem
  · simp [madeCells]
  · intro i h1 h2
    simp [madeCells, Nat.mod_one]
end Go.Proofs.Ytcpmcgbjmncalaa.Paths

namespace Go.Proofs.Ytcpmcgbjmncalaa.Paths
open Go.RowKit Go.Proofs.Ytcpmcgbjmncalaa.Ints Go.Proofs.Ytcpmcgbjmncalaa.Mem Go.Proofs.Ytcpmcgbjmncalaa.Src

/-- The place of a number in a list; -1: none. -/
def numT (zs : List Int) (x : Int) : Int := if zs.findIdx (· == x) < zs.length then ((zs.findIdx (· == x) : Nat) : Int) else -1
theorem num_at {zs : List Int} {x : Int} {i : Nat} (hi : i < zs.length) (h : zs[i]?.getD 0 = x) (hb : ∀ m, m < i → zs[m]?.getD 0 ≠ x) : numT zs x = (i : Nat) := by
  have e : zs.findIdx (· == x) = i := by
    rw [List.findIdx_eq hi]
    refine ⟨?_, fun j hj => ?_⟩
    · rw [List.getElem?_eq_getElem hi] at h
      exact beq_iff_eq.2 h
    · have := hb j hj
      rw [List.getElem?_eq_getElem (by omega)] at this
      exact Bool.eq_false_iff.2 (fun e => this (beq_iff_eq.1 e))
  unfold numT
  rw [e, if_pos hi]
end Go.Proofs.Ytcpmcgbjmncalaa.Paths
