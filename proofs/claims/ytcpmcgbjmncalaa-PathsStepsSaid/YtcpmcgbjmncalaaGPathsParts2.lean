/-
  A block of memory, cell by cell. By an AI agent.
  A source of bytes as plain lists: what a Read tells. A block of the reference's source. By an AI agent.
  Tables of bools in memory (stage 14): rows of their own; the walk of the reference's square. By an AI agent.
  The walks of the reference's number and square (stage 14). By an AI agent.
-/
import Derived.Test.YtcpmcgbjmncalaaGPathsParts1
import Derived.OwnWalk
namespace Go.Proofs.Ytcpmcgbjmncalaa.Mem
open Go.RowKit Go.Proofs.Ytcpmcgbjmncalaa.Ints

/-! ### a block -/
/-- The block g begins with the cells vs. -/
def Blk (w : World) (g : Nat) (vs : List Value) : Prop := g < w.heap.size ∧ ∀ (k : Nat) (v : Value), vs[k]? = some v → w.cell? ⟨g, k, none⟩ = some v ∧ w.frozen? ⟨g, k, none⟩ = false
theorem Blk.cell {w : World} {g : Nat} {vs : List Value} (h : Blk w g vs) (k : Nat) {v : Value} (hv : vs[k]? = some v) : w.cell? ⟨g, k, none⟩ = some v := (h.2 k v hv).1
theorem Blk.fz {w : World} {g : Nat} {vs : List Value} (h : Blk w g vs) (k : Nat) {v : Value} (hv : vs[k]? = some v) : w.frozen? ⟨g, k, none⟩ = false := (h.2 k v hv).2
theorem Blk.same {w w' : World} {g : Nat} {vs : List Value} (h : Blk w g vs) (hs : w.heap.size ≤ w'.heap.size) (hb : w'.heap[g]? = w.heap[g]?) : Blk w' g vs :=
  ⟨Nat.lt_of_lt_of_le h.1 hs, fun k _ hv => ⟨(World.cell?_of_block (w := w) (a := ⟨g, k, none⟩) hb).trans (h.cell k hv), (World.frozen?_of_block (w := w) (a := ⟨g, k, none⟩) hb).trans (h.fz k hv)⟩⟩
theorem Blk.below {B : Nat} {w w' : World} {g : Nat} {vs : List Value} (h : Blk w g vs) (hb : Below B w w') (hg : g < B) : Blk w' g vs := h.same hb.size (hb.block g hg)
theorem Blk.later {w w' : World} {g : Nat} {vs : List Value} (h : Blk w g vs) (hb : Below w.heap.size w w') : Blk w' g vs := h.below hb h.1
theorem Blk.alloc {w : World} {g : Nat} {vs : List Value} (h : Blk w g vs) (o : Obj) : Blk (w.alloc o) g vs := h.later ((Below.refl _ _).alloc (Nat.le_refl _) _)
theorem Blk.grown {w w' : World} {g : Nat} {vs : List Value} {row : Option Nat} (h : Blk w g vs) (hg : w.grownBy w' row) (hne : some g ≠ row) : Blk w' g vs := h.same hg.size (hg.block g h.1 hne)
theorem Blk.set {w : World} {g : Nat} {vs : List Value} (h : Blk w g vs) (k : Nat) (u : Value) (hk : k < vs.length) : Blk (w.setCell ⟨g, k, none⟩ u) g (vs.set k u) := by
  refine ⟨by simpa using h.1, fun j v hv => ⟨?_, ?_⟩⟩
  · rw [List.getElem?_set] at hv
    by_cases e : k = j
    · subst e
      rw [if_pos rfl, if_pos hk] at hv
      cases hv
      exact World.cell?_setCell_same _ _ _ (h.cell k (List.getElem?_eq_getElem hk))
    · rw [if_neg e] at hv
      exact (World.cell?_setCell_other _ _ _ _ (fun e' => e (by injection e'))).trans (h.cell j hv)
  · rw [World.frozen?_setCell]
    rw [List.getElem?_set] at hv
    by_cases e : k = j
    · subst e
      exact h.fz k (List.getElem?_eq_getElem hk)
    · rw [if_neg e] at hv
      exact h.fz j hv
theorem Blk.other {w : World} {g : Nat} {vs : List Value} (h : Blk w g vs) (p : Addr) (u : Value) (hp : g ≠ p.block) : Blk (w.setCell p u) g vs := h.same (by simp) (Below.heap_setCell w p u g hp)
theorem Blk.drew {w : World} {g : Nat} {vs : List Value} (h : Blk w g vs) : Blk w.drew g vs := h
theorem Blk.drewN {w : World} {g : Nat} {vs : List Value} (h : Blk w g vs) (n : Nat) : Blk (w.drewN n) g vs := h
theorem Blk.new (w : World) (cs : Array Value) (T : TypeId) (vs : List Value) (hv : cs.toList = vs) : Blk (w.alloc (.cells cs T)) w.heap.size vs := by
  subst hv
  refine ⟨by simp, fun k v hk => ⟨?_, ?_⟩⟩
  · rw [cell_of_row _ w.heap.size k _ T (0, 0) (heap_alloc_new w _)]
    simpa using hk
  · exact World.frozen?_alloc_new _ _ _ _
end Go.Proofs.Ytcpmcgbjmncalaa.Mem

namespace Go.Proofs.Ytcpmcgbjmncalaa.Src
open Go.RowKit Go.Proofs.Ytcpmcgbjmncalaa.Ints Go.Proofs.Ytcpmcgbjmncalaa.Mem

theorem rd_grown {k : IntKind} {w w' : World} {A : Option Addr} {n : Nat} {zs : List Int} {row : Option Nat} (h : Rd k w A n zs) (hg : w.grownBy w' row) (hne : ∀ a, A = some a → 0 < n → some a.block ≠ row) : Rd k w' A n zs := by
  rcases Nat.eq_zero_or_pos n with h0 | h0
  · subst h0
    rw [List.eq_nil_of_length_eq_zero h.len]
    exact Rd.nil _ _ _
  · exact h.grown hg (fun a e => hne a e h0)
theorem rd_lt {k : IntKind} {w : World} {A : Option Addr} {n : Nat} {zs : List Int} (h : Rd k w A n zs) : ∀ a, A = some a → 0 < n → a.block < w.heap.size := by
  intro a e h0
  obtain ⟨b, off, e2, hc⟩ := h.cell h0
  rw [e] at e2
  injection e2 with e2
  subst e2
  exact World.block_lt_of_cell? w _ (hc 0 h0)
/-- A source of four cells in the block g: bytes, script, fault, how many Reads told bytes; what the first two read as lies in blocks of S. -/
structure Src4 (S : Nat → Prop) (w : World) (g : Nat) (bs sc : List Int) (f N : Nat) : Prop where
  ex : ∃ A c B d, Blk w g [.slice A bs.length c, .slice B sc.length d, .int .i64 (f : Nat), .int .i64 (N : Nat)] ∧ Rd .u8 w A bs.length bs ∧ bs.length ≤ c ∧ c ≤ maxLen ∧ Rd .i64 w B sc.length sc ∧ sc.length ≤ maxLen ∧
    (∀ a, A = some a → 0 < bs.length → S a.block) ∧ (∀ a, B = some a → 0 < sc.length → S a.block)
  ne : ¬ S g
  le : f ≤ bs.length
theorem Src4.lt {S : Nat → Prop} {w : World} {g : Nat} {bs sc : List Int} {f N : Nat} (h : Src4 S w g bs sc f N) : g < w.heap.size := by
  obtain ⟨A, c, B, d, h1, -⟩ := h.ex
  exact h1.1
theorem Src4.kept {S : Nat → Prop} {w w' : World} {g : Nat} {bs sc : List Int} {f N : Nat} {row : Option Nat} (h : Src4 S w g bs sc f N) (hg : w.grownBy w' row) (hne : some g ≠ row) (hS : ∀ b, S b → some b ≠ row) : Src4 S w' g bs sc f N := by
  obtain ⟨A, c, B, d, h1, h2, h3, h4, h5, h6, h7, h8⟩ := h.ex
  exact ⟨⟨A, c, B, d, h1.grown hg hne, rd_grown h2 hg (fun a e h0 => hS _ (h7 a e h0)), h3, h4, rd_grown h5 hg (fun a e h0 => hS _ (h8 a e h0)), h6, h7, h8⟩, h.ne, h.le⟩
theorem Src4.below {S : Nat → Prop} {w w' : World} {g : Nat} {bs sc : List Int} {f N : Nat} (h : Src4 S w g bs sc f N) (hb : Below w.heap.size w w') : Src4 S w' g bs sc f N := by
  obtain ⟨A, c, B, d, h1, h2, h3, h4, h5, h6, h7, h8⟩ := h.ex
  exact ⟨⟨A, c, B, d, h1.later hb, h2.below hb, h3, h4, h5.below hb, h6, h7, h8⟩, h.ne, h.le⟩
theorem Src4.mono {S S' : Nat → Prop} {w : World} {g : Nat} {bs sc : List Int} {f N : Nat} (h : Src4 S w g bs sc f N) (hs : ∀ b, S b → S' b) (hg : ¬ S' g) : Src4 S' w g bs sc f N := by
  obtain ⟨A, c, B, d, h1, h2, h3, h4, h5, h6, h7, h8⟩ := h.ex
  exact ⟨⟨A, c, B, d, h1, h2, h3, h4, h5, h6, fun a e h0 => hs _ (h7 a e h0), fun a e h0 => hs _ (h8 a e h0)⟩, hg, h.le⟩
theorem grown_cell (w : World) (p : Addr) (u : Value) : w.grownBy (w.setCell p u) (some p.block) :=
  ⟨rfl, rfl, rfl, by simp [World.setCell], fun k _ hne => Below.heap_setCell w p u k (fun e => hne (by rw [e]))⟩
/-- One Read more. -/
theorem Src4.step {S : Nat → Prop} {w : World} {g : Nat} {bs sc : List Int} {f N : Nat} (h : Src4 S w g bs sc f N) : Src4 S (w.setCell ⟨g, 3, none⟩ (.int .i64 ((N : Int) + 1))) g bs sc f (N + 1) := by
  obtain ⟨A, c, B, d, h1, h2, h3, h4, h5, h6, h7, h8⟩ := h.ex
  have hgr := grown_cell w ⟨g, 3, none⟩ (.int .i64 ((N : Int) + 1))
  have off : ∀ a : Addr, S a.block → some a.block ≠ some g := fun a ha e => by
    injection e with e
    rw [e] at ha
    exact h.ne ha
  have hst := h1.set 3 (.int .i64 ((N : Int) + 1)) (by simp)
  refine ⟨⟨A, c, B, d, ?_, rd_grown h2 hgr (fun a e h0 => off a (h7 a e h0)), h3, h4, rd_grown h5 hgr (fun a e h0 => off a (h8 a e h0)), h6, h7, h8⟩, h.ne, h.le⟩
  have e : ((N + 1 : Nat) : Int) = (N : Int) + 1 := by omega
  rw [e]
  simpa using hst
end Go.Proofs.Ytcpmcgbjmncalaa.Src

namespace Go.Proofs.Ytcpmcgbjmncalaa.Paths
open Go.RowKit Go.Proofs.Ytcpmcgbjmncalaa.Ints Go.Proofs.Ytcpmcgbjmncalaa.Mem Go.Proofs.Ytcpmcgbjmncalaa.Src

theorem infoBl : (Try.prog.info? 4).map (fun i => (i.zero, i.size, i.bytes)) = some (some (.bool false), 1, 1) := by kernel_rfl
theorem infoBs : (Try.prog.info? 44).map (fun i => (i.zero, i.size, i.bytes)) = some (some (.slice none 0 0), 1, 24) := by kernel_rfl
/-- A row of a table. -/
def rowT (n : Nat) (m : Tb) (i : Nat) : List Value := (List.range n).map fun j => .bool (m i j)
theorem rowT_len (n : Nat) (m : Tb) (i : Nat) : (rowT n m i).length = n := by simp [rowT]
theorem rowT_at {n : Nat} {m : Tb} {i j : Nat} (h : j < n) : (rowT n m i)[j]? = some (.bool (m i j)) := by
  unfold rowT
  rw [List.getElem?_map, List.getElem?_range h]
  rfl
/-- A table in memory: its slice in the block B, its rows in the blocks R, all from lo on. -/
structure Tab (w : World) (lo B : Nat) (R : Nat → Nat) (n : Nat) (m : Tb) : Prop where
  out : w.ownsRow lo 44 1 (.slice (some ⟨B, 0, none⟩) n n) n ((List.range n).map fun i => .slice (some ⟨R i, 0, none⟩) n n)
  row : ∀ i, i < n → w.ownsRow lo 4 1 (.slice (some ⟨R i, 0, none⟩) n n) n (rowT n m i)
  off : ∀ i, i < n → R i ≠ B ∧ ∀ j, j < n → R i = R j → i = j
theorem Tab.outer {w : World} {lo B : Nat} {R : Nat → Nat} {n : Nat} {m : Tb} (h : Tab w lo B R n m) {i : Nat} (hi : i < n) : w.cell? ⟨B, i, none⟩ = some (.slice (some ⟨R i, 0, none⟩) n n) := by
  have := h.out.cells (g := B) rfl i (.slice (some ⟨R i, 0, none⟩) n n) (by rw [List.getElem?_map, List.getElem?_range hi]; rfl)
  rwa [Addr.add_lit, Nat.zero_add] at this
theorem Tab.inner {w : World} {lo B : Nat} {R : Nat → Nat} {n : Nat} {m : Tb} (h : Tab w lo B R n m) {i j : Nat} (hi : i < n) (hj : j < n) : w.cell? ⟨R i, j, none⟩ = some (.bool (m i j)) := by
  have := (h.row i hi).cells (g := R i) rfl j (.bool (m i j)) (rowT_at hj)
  rwa [Addr.add_lit, Nat.zero_add] at this
theorem own_fz {w : World} {B : Nat} {e : TypeId} {size r n c : Nat} {xs : List Value} (h : w.ownsRow B e size (.slice (some ⟨r, 0, none⟩) n c) n xs) (k : Nat) : w.frozen? ⟨r, k, none⟩ = false := by
  rcases h.2 with ⟨e1, -⟩ | ⟨g', c', cur, e1, hB, hg, -⟩
  · cases e1
  · injection e1 with e1 e2 e3
    injection e1 with e1
    injection e1 with e1 _ _
    subst e1
    simp [World.frozen?, hg]
theorem own_put {w : World} {B : Nat} {e : TypeId} {size r n c k : Nat} {xs : List Value} (h : w.ownsRow B e size (.slice (some ⟨r, 0, none⟩) n c) n xs) (u : Value) : (w.setCell ⟨r, k, none⟩ u).ownsRow B e size (.slice (some ⟨r, 0, none⟩) n c) n (xs.set k u) := by
  rcases h.2 with ⟨e1, -⟩ | ⟨g', c', cur, e1, hB, hg, hnc, hcm, hcs, htk⟩
  · cases e1
  · injection e1 with e1 e2 e3
    injection e1 with e1
    injection e1 with e1 _ _
    subst e1
    subst e3
    have hs := setCell_eq_setRow w r k cur e (0, 0) u hg
    have hg2 := setRow_heap w r cur (cur.setIfInBounds k u) e (0, 0) hg
    rw [← hs] at hg2
    refine ⟨by rw [List.length_set]; exact h.1, .inr ⟨r, c, _, rfl, hB, hg2, hnc, hcm, by simpa using hcs, ?_⟩⟩
    rw [Array.toList_setIfInBounds, List.take_set, htk]
theorem Tab.kept {w w' : World} {lo B : Nat} {R : Nat → Nat} {n : Nat} {m : Tb} (h : Tab w lo B R n m) (hb : w'.heap[B]? = w.heap[B]?) (hr : ∀ i, i < n → w'.heap[R i]? = w.heap[R i]?) : Tab w' lo B R n m := by
  have go : ∀ {e : TypeId} {r : Nat} {xs : List Value}, w'.heap[r]? = w.heap[r]? → w.ownsRow lo e 1 (.slice (some ⟨r, 0, none⟩) n n) n xs → w'.ownsRow lo e 1 (.slice (some ⟨r, 0, none⟩) n n) n xs := fun hq h => by
    refine ⟨h.1, ?_⟩
    rcases h.2 with h2 | ⟨g, cap, cur, e1, h4, h5, h6⟩
    · exact .inl h2
    · injection e1 with e1 e2 e3
      injection e1 with e1
      injection e1 with e1 _ _
      subst e1
      subst e3
      exact .inr ⟨_, _, cur, rfl, h4, hq.trans h5, h6⟩
  exact ⟨go hb h.out, fun i hi => go (hr i hi) (h.row i hi), h.off⟩
theorem Tab.below {w w' : World} {lo B : Nat} {R : Nat → Nat} {n : Nat} {m : Tb} (h : Tab w lo B R n m) (hb : Below w.heap.size w w') : Tab w' lo B R n m :=
  h.kept (hb.block B (h.out.lt B rfl).2) (fun i hi => hb.block _ ((h.row i hi).lt _ rfl).2)
def updT (m : Tb) (i j : Nat) (x : Bool) : Tb := fun a b => if a = i ∧ b = j then x else m a b
theorem Tab.ext {w : World} {lo B : Nat} {R : Nat → Nat} {n : Nat} {m m' : Tb} (h : Tab w lo B R n m) (he : ∀ i j, i < n → j < n → m i j = m' i j) : Tab w lo B R n m' := by
  refine ⟨h.out, fun i hi => ?_, h.off⟩
  have e : rowT n m i = rowT n m' i := by
    unfold rowT
    apply List.map_congr_left
    intro j hj
    rw [he i j hi (List.mem_range.1 hj)]
  rw [← e]
  exact h.row i hi
/-- One place is stored into. -/
theorem Tab.set {w : World} {lo B : Nat} {R : Nat → Nat} {n : Nat} {m : Tb} (h : Tab w lo B R n m) {i j : Nat} (hi : i < n) (hj : j < n) (x : Bool) : Tab (w.setCell ⟨R i, j, none⟩ (.bool x)) lo B R n (updT m i j x) := by
  have hother : ∀ r, r ≠ R i → (w.setCell ⟨R i, j, none⟩ (.bool x)).heap[r]? = w.heap[r]? := fun r hr => Below.heap_setCell w _ _ r hr
  have k := h.kept (w' := w)
  obtain ⟨hiB, hinj⟩ := h.off i hi
  refine ⟨?_, fun a ha => ?_, h.off⟩
  · exact h.out.kept (grown_cell w ⟨R i, j, none⟩ (.bool x)) (.inr (fun e => by injection e with e; exact hiB e.symm))
  · by_cases ea : a = i
    · subst ea
      have h1 := own_put (k := j) (h.row a ha) (.bool x)
      have e : (rowT n m a).set j (.bool x) = rowT n (updT m a j x) a := by
        apply List.ext_getElem?
        intro q
        rw [List.getElem?_set, rowT_len]
        by_cases hq : q < n
        · rw [rowT_at hq, rowT_at hq]
          unfold updT
          by_cases e : j = q
          · subst e
            rw [if_pos rfl, if_pos hq, if_pos ⟨rfl, rfl⟩]
          · rw [if_neg e, if_neg (fun e2 => e e2.2.symm)]
        · have hn : ∀ mm : Tb, (rowT n mm a)[q]? = none := fun mm => List.getElem?_eq_none (by rw [rowT_len]; omega)
          rw [hn, hn]
          by_cases e : j = q
          · rw [if_pos e, if_neg (by omega)]
          · rw [if_neg e]
      rw [e] at h1
      exact h1
    · have e : rowT n (updT m i j x) a = rowT n m a := by
        unfold rowT
        apply List.map_congr_left
        intro q _
        unfold updT
        rw [if_neg (fun e => ea e.1)]
      rw [e]
      exact (h.row a ha).kept (grown_cell w ⟨R i, j, none⟩ (.bool x)) (.inr (fun e => by injection e with e; exact ea (hinj a ha e.symm).symm))
theorem made_bools (n : Nat) : (madeCells (Value.bool false).cells (n * 1)).toList = List.replicate n (.bool false) := by
  rw [Nat.mul_one]
  have e : (Value.bool false).cells = #[.bool false] := rfl
  rw [e]
  apply List.ext_getElem
  · simp [madeCells]
  · intro i h1 h2
    simp [madeCells, Nat.mod_one]
theorem made_slices (n : Nat) : (madeCells (Value.slice none 0 0).cells (n * 1)).toList = List.replicate n (.slice none 0 0) := by
  rw [Nat.mul_one]
  have e : (Value.slice none 0 0).cells = #[.slice none 0 0] := rfl
  rw [e]
  apply List.ext_getElem
  · simp [madeCells]
  · intro i h1 h2
    simp [madeCells, Nat.mod_one]
end Go.Proofs.Ytcpmcgbjmncalaa.Paths

namespace Go.Proofs.Ytcpmcgbjmncalaa.Paths
open Go.RowKit Go.Proofs.Ytcpmcgbjmncalaa.Ints Go.Proofs.Ytcpmcgbjmncalaa.Mem Go.Proofs.Ytcpmcgbjmncalaa.Src

/-- The place of a number in a list; -1: none. -/
def numT (zs : List Int) (x : Int) : Int := if zs.findIdx (· == x) < zs.length then ((zs.findIdx (· == x) : Nat) : Int) else -1
theorem num_at {zs : List Int} {x : Int} {i : Nat} (hi : i < zs.length) (h : zs[i]?.getD 0 = x) (hb : ∀ m, m < i → zs[m]?.getD 0 ≠ x) : numT zs x = (i : Nat) := by
  have e : zs.findIdx (· == x) = i := by
    rw [List.findIdx_eq hi]
    refine ⟨?_, fun j hj => ?_⟩
    · rw [List.getElem?_eq_getElem hi] at h
      exact beq_iff_eq.2 h
    · have := hb j hj
      rw [List.getElem?_eq_getElem (by omega)] at this
      exact Bool.eq_false_iff.2 (fun e => this (beq_iff_eq.1 e))
  unfold numT
  rw [e, if_pos hi]
theorem num_none {zs : List Int} {x : Int} (hb : ∀ m, m < zs.length → zs[m]?.getD 0 ≠ x) : numT zs x = -1 := by
  unfold numT
  rw [if_neg]
  intro h
  have h2 := List.findIdx_getElem (p := (· == x)) (w := h)
  have := hb _ h
  rw [List.getElem?_eq_getElem h] at this
  exact this (beq_iff_eq.1 h2)
set_option maxHeartbeats 4000000 in
set_option maxRecDepth 100000 in
theorem refNumber (A : Option Addr) (k c : Nat) (zs : List Int) (x : Int) (w : World) (h : Rd .i64 w A k zs) (_hk : k ≤ c) (hn : k ≤ 1048576) :
    Calls Try.prog 55 #[.slice A k c, .int .i64 x] w fun e w' => e = .returned (.int .i64 (numT zs x)) ∧ w' = w := by
  have hl := h.len
  have HR := Lib.hid h
  clear h
  go_enter Try.func55, Try.ntmps55
  go_wp2_with fail
  go_loopw [8] (fun v wr => ∃ i : Nat, v = .int .i64 (i : Nat) ∧ i ≤ k ∧ Hid (∀ m, m < i → zs[m]?.getD 0 ≠ x) ∧ wr = w) (fun v _ => k - (intOf v).toNat)
  case atStart => exact ⟨0, rfl, Nat.zero_le _, Lib.hid (fun m hm => absurd hm (Nat.not_lt_zero _)), rfl⟩
  case round =>
    obtain ⟨i, rfl, hik, hb, rfl⟩ := hrel
    by_cases hlt : i < k
    · obtain ⟨b, off, rfl, hc⟩ := HR.out.cell (by omega)
      have y := hc i hlt
      obtain ⟨z, hz⟩ : ∃ z, zs[i]?.getD 0 = z := ⟨_, rfl⟩
      rw [hz] at y
      have HZ := Lib.hid hz
      clear hc hz
      by_cases he : z = x
      · have HN := Lib.hid (num_at (by omega) (HZ.out.trans he) hb.out)
        have he' : (z == x) = true := beq_iff_eq.2 he
        clear he
        go_wp2_with fail
        go_ret
        exact ⟨by rw [HN.out]; rfl, rfl⟩
      · have he' : (z == x) = false := Bool.eq_false_iff.2 (fun e => he (beq_iff_eq.1 e))
        have HB := Lib.hid (show ∀ m, m < i + 1 → zs[m]?.getD 0 ≠ x from fun m hm => by
          rcases Nat.lt_or_ge m i with h1 | h1
          · exact hb.out m h1
          · rw [show m = i by omega, HZ.out]
            exact he)
        go_wp2_with fail
        go_roundw
        case rel => exact ⟨i + 1, by simp, by omega, HB, by first | rfl | trivial⟩
        case measure => (show k - (i + 1) < k - i; omega)
    · have HN := Lib.hid (num_none (zs := zs) (x := x) (fun m hm => hb.out m (by omega)))
      go_wp2_with fail
      go_ret
      exact ⟨by rw [HN.out]; rfl, rfl⟩

/-- The outer row while it is being filled. -/
def outT (n i : Nat) (R : Nat → Nat) : List Value := (List.range n).map fun a => if a < i then .slice (some ⟨R a, 0, none⟩) n n else .slice none 0 0
theorem outT_len (n i : Nat) (R : Nat → Nat) : (outT n i R).length = n := by simp [outT]
theorem outT_at {n i : Nat} {R : Nat → Nat} {a : Nat} (h : a < n) : (outT n i R)[a]? = some (if a < i then .slice (some ⟨R a, 0, none⟩) n n else .slice none 0 0) := by
  unfold outT
  rw [List.getElem?_map, List.getElem?_range h]
  rfl
theorem outT_zero (n : Nat) (R : Nat → Nat) : outT n 0 R = List.replicate n (.slice none 0 0) := by
  apply List.ext_getElem?
  intro a
  by_cases h : a < n
  · rw [outT_at h, if_neg (by omega), List.getElem?_replicate, if_pos h]
  · rw [List.getElem?_eq_none (by rw [outT_len]; omega), List.getElem?_eq_none (by rw [List.length_replicate]; omega)]
theorem outT_set {n i : Nat} {R : Nat → Nat} (hi : i < n) (q : Nat) : (outT n i R).set i (.slice (some ⟨q, 0, none⟩) n n) = outT n (i + 1) (fun a => if a = i then q else R a) := by
  apply List.ext_getElem?
  intro a
  rw [List.getElem?_set, outT_len]
  by_cases h : a < n
  · by_cases e : i = a
    · subst e
      rw [if_pos rfl, if_pos h, outT_at h, if_pos (by omega), if_pos rfl]
    · rw [if_neg e, outT_at h, outT_at h]
      by_cases h2 : a < i
      · rw [if_pos h2, if_pos (by omega), if_neg (by omega)]
      · rw [if_neg h2, if_neg (by omega)]
  · rw [List.getElem?_eq_none (l := outT n (i + 1) _) (by rw [outT_len]; omega)]
    by_cases e : i = a
    · rw [if_pos e, if_neg (by omega)]
    · rw [if_neg e, List.getElem?_eq_none (by rw [outT_len]; omega)]
theorem outT_full (n : Nat) (R : Nat → Nat) : outT n n R = (List.range n).map fun i => .slice (some ⟨R i, 0, none⟩) n n := by
  unfold outT
  apply List.map_congr_left
  intro a ha
  rw [if_pos (List.mem_range.1 ha)]
theorem row_false (n : Nat) (i : Nat) : rowT n (fun _ _ => false) i = List.replicate n (.bool false) := by
  unfold rowT
  rw [List.map_const', List.length_range]
set_option maxHeartbeats 8000000 in
set_option maxRecDepth 100000 in
theorem refSquare (n : Nat) (w : World) (hn : n ≤ 1000000) :
    Calls Try.prog 53 #[.int .i64 (n : Nat)] w fun e w' => ∃ B R, e = .returned (.slice (some ⟨B, 0, none⟩) n n) ∧ Tab w' w.heap.size B R n (fun _ _ => false) ∧ Below w.heap.size w w' := by
  have q63 : maxLen = 9223372036854775807 := rfl
  obtain ⟨i0, hi, hz0, hz1, hz2⟩ := info_parts infoBs
  obtain ⟨i1, hi1, hy0, hy1, hy2⟩ := info_parts infoBl
  have b1 : i0.bytes * n ≤ 281474976710656 := by rw [hz2]; omega
  have b2 : i1.bytes * n ≤ 281474976710656 := by rw [hy2]; omega
  have b3 : n ≤ maxLen := by omega
  have HB0 := Lib.hid (Below.refl w.heap.size w)
  go_enter Try.func53, Try.ntmps53
  go_wp2_with (at_make; refine wpList_make_full _ rfl (.tmp 5) (.tmp 5) 32 rfl w.heap.size 44 i0 (.slice none 0 0) 1 Try.underlying32 hi hz0 hz1 .i64 .i64 _ _ n rfl rfl rfl rfl b1 b3 (Nat.le_refl _) ?_; intro w1 hmade hgr1; rw [made_slices] at hmade)
  have HM := Lib.hid hmade
  have HG := Lib.hid hgr1
  clear hmade hgr1
  go_loopw [8] (fun v wr => ∃ (i : Nat) (R : Nat → Nat), v = .int .i64 (i : Nat) ∧ i ≤ n ∧ wr.ownsRow w.heap.size 44 1 (.slice (some ⟨w.heap.size, 0, none⟩) n n) n (outT n i R) ∧
    Hid (∀ a, a < i → wr.ownsRow w.heap.size 4 1 (.slice (some ⟨R a, 0, none⟩) n n) n (List.replicate n (.bool false)) ∧ R a ≠ w.heap.size ∧ ∀ b, b < i → R a = R b → a = b) ∧ Below w.heap.size w wr) (fun v _ => n - (intOf v).toNat)
  case atStart => exact ⟨0, fun _ => 0, rfl, Nat.zero_le _, by rw [outT_zero]; exact HM.out, Lib.hid (fun a ha => absurd ha (Nat.not_lt_zero _)), ⟨HG.out.os, HG.out.tape, HG.out.output, HG.out.size, fun k hk => HG.out.block k hk (by simp)⟩⟩
  case round =>
    obtain ⟨i, R, rfl, hin, hout, hrows, hB⟩ := hrel
    have HO := Lib.hid hout
    have HB := Lib.hid hB
    by_cases hlt : i < n
    · have hwl := (hout.lt w.heap.size rfl).2
      clear hout hB
      go_wp2_with (at_make; refine wpList_make_full _ rfl (.tmp 13) (.tmp 13) 44 rfl w.heap.size 4 i1 (.bool false) 1 Try.underlying44 hi1 hy0 hy1 .i64 .i64 _ _ n rfl rfl rfl rfl b2 b3 HB.out.size ?_; intro w2 hmade hgr2; rw [made_bools] at hmade; have HO2 := Lib.hid (HO.out.kept hgr2 (.inr (by simp [Value.ownBlock]))); have c0 := HO2.out.cells (g := w.heap.size) rfl i _ (outT_at hlt); rw [if_neg (Nat.lt_irrefl i), Addr.add_lit, Nat.zero_add] at c0; have f0 := own_fz HO2.out i)
      have HM2 := Lib.hid hmade
      have HG2 := Lib.hid hgr2
      have HR := Lib.hid hrows
      clear hmade hgr2 c0 f0 hrows
      go_roundw
      case rel =>
        have hne : wr.heap.size ≠ w.heap.size := by omega
        refine ⟨i + 1, fun a => if a = i then wr.heap.size else R a, by simp, by omega, ?_, Lib.hid (fun a ha => ?_), ?_⟩
        · have h1 := own_put (k := i) HO2.out (.slice (some ⟨wr.heap.size, 0, none⟩) n n)
          rw [outT_set hlt] at h1
          exact h1
        · show (w2.setCell ⟨w.heap.size, i, none⟩ (.slice (some ⟨wr.heap.size, 0, none⟩) n n)).ownsRow w.heap.size 4 1 (.slice (some ⟨if a = i then wr.heap.size else R a, 0, none⟩) n n) n (List.replicate n (.bool false)) ∧ (if a = i then wr.heap.size else R a) ≠ w.heap.size ∧ ∀ b, b < i + 1 → (if a = i then wr.heap.size else R a) = (if b = i then wr.heap.size else R b) → a = b
          by_cases ea : a = i
          · subst ea
            simp only [if_true]
            refine ⟨HM2.out.kept (grown_cell w2 ⟨w.heap.size, a, none⟩ _) (.inr (fun e => by injection e with e; exact hne e)), hne, fun b hb e => ?_⟩
            by_cases eb : b = a
            · exact eb.symm
            · exfalso
              rw [if_neg eb] at e
              have h9 : R b < wr.heap.size := ((HR.out b (by omega)).1.lt (R b) rfl).2
              omega
          · have hai : a < i := by omega
            obtain ⟨r1, r2, r3⟩ := HR.out a hai
            simp only [if_neg ea]
            refine ⟨(r1.kept HG2.out (.inr (by simp [Value.ownBlock]))).kept (grown_cell w2 ⟨w.heap.size, i, none⟩ _) (.inr (fun e => by injection e with e; exact r2 e)), r2, fun b hb e => ?_⟩
            by_cases eb : b = i
            · exfalso
              rw [if_pos eb] at e
              have h9 : R a < wr.heap.size := (r1.lt (R a) rfl).2
              omega
            · rw [if_neg eb] at e
              exact r3 b (by omega) e
        · have h1 : Below w.heap.size w w2 := ⟨HG2.out.os.trans HB.out.os, HG2.out.tape.trans HB.out.tape, HG2.out.output.trans HB.out.output, Nat.le_trans HB.out.size HG2.out.size, fun k hk => (HG2.out.block k (by have := HB.out.size; omega) (by simp)).trans (HB.out.block k hk)⟩
          exact h1.setCell (p := ⟨w.heap.size, i, none⟩) (Nat.le_refl _) _
      case measure => (show n - (i + 1) < n - i; omega)
    · obtain rfl : i = n := by omega
      clear hout hB
      have HT := Lib.hid (show Tab wr w.heap.size w.heap.size R i (fun _ _ => false) from ⟨by have h1 := HO.out; rw [outT_full] at h1; exact h1, fun a ha => by rw [row_false]; exact (hrows.out a ha).1, fun a ha => (hrows.out a ha).2⟩)
      go_wp2_with fail
      go_ret
      exact ⟨w.heap.size, R, rfl, HT.out, HB.out⟩
end Go.Proofs.Ytcpmcgbjmncalaa.Paths
