/-
  Tables of bools in memory (stage 14): rows of their own; the walk of the reference's square. By an AI agent.
  The walks of the reference's number and square (stage 14). By an AI agent.
  A drawn region in which loads stand beside a late store into what they read: S is asked only as long as nothing late has come up. By an AI agent.
  The walk of the reference's product (stage 14). By an AI agent.
-/
import Derived.Test.YtcpmcgbjmncalaaGPathsLocal2
import Derived.OwnWalk
import Derived.Deep.RegionHeld3
namespace Go.Proofs.Ytcpmcgbjmncalaa.Paths
open Go.RowKit Go.Proofs.Ytcpmcgbjmncalaa.Ints Go.Proofs.Ytcpmcgbjmncalaa.Mem Go.Proofs.Ytcpmcgbjmncalaa.Src

theorem infoBl : (Try.prog.info? 4).map (fun i => (i.zero, i.size, i.bytes)) = some (some (.bool false), 1, 1) := by kernel_rfl
theorem infoBs : (Try.prog.info? 44).map (fun i => (i.zero, i.size, i.bytes)) = some (some (.slice none 0 0), 1, 24) := by kernel_rfl
/-- A row of a table. -/
def rowT (n : Nat) (m : Tb) (i : Nat) : List Value := (List.range n).map fun j => .bool (m i j)
theorem rowT_len (n : Nat) (m : Tb) (i : Nat) : (rowT n m i).length = n := by simp [rowT]
theorem rowT_at {n : Nat} {m : Tb} {i j : Nat} (h : j < n) : (rowT n m i)[j]? = some (.bool (m i j)) := by
  unfold rowT
  rw [List.getElem?_map, List.getElem?_range h]
  rfl
/-- A table in memory: its slice in the block B, its rows in the blocks R, all from lo on. -/
structure Tab (w : World) (lo B : Nat) (R : Nat → Nat) (n : Nat) (m : Tb) : Prop where
  out : w.ownsRow lo 44 1 (.slice (some ⟨B, 0, none⟩) n n) n ((List.range n).map fun i => .slice (some ⟨R i, 0, none⟩) n n)
  row : ∀ i, i < n → w.ownsRow lo 4 1 (.slice (some ⟨R i, 0, none⟩) n n) n (rowT n m i)
  off : ∀ i, i < n → R i ≠ B ∧ ∀ j, j < n → R i = R j → i = j
theorem Tab.outer {w : World} {lo B : Nat} {R : Nat → Nat} {n : Nat} {m : Tb} (h : Tab w lo B R n m) {i : Nat} (hi : i < n) : w.cell? ⟨B, i, none⟩ = some (.slice (some ⟨R i, 0, none⟩) n n) := by
  have := h.out.cells (g := B) rfl i (.slice (some ⟨R i, 0, none⟩) n n) (by rw [List.getElem?_map, List.getElem?_range hi]; rfl)
  rwa [Addr.add_lit, Nat.zero_add] at this
theorem Tab.inner {w : World} {lo B : Nat} {R : Nat → Nat} {n : Nat} {m : Tb} (h : Tab w lo B R n m) {i j : Nat} (hi : i < n) (hj : j < n) : w.cell? ⟨R i, j, none⟩ = some (.bool (m i j)) := by
  have := (h.row i hi).cells (g := R i) rfl j (.bool (m i j)) (rowT_at hj)
  rwa [Addr.add_lit, Nat.zero_add] at this
theorem own_fz {w : World} {B : Nat} {e : TypeId} {size r n c : Nat} {xs : List Value} (h : w.ownsRow B e size (.slice (some ⟨r, 0, none⟩) n c) n xs) (k : Nat) : w.frozen? ⟨r, k, none⟩ = false := by
  rcases h.2 with ⟨e1, -⟩ | ⟨g', c', cur, e1, hB, hg, -⟩
  · cases e1
  · injection e1 with e1 e2 e3
    injection e1 with e1
    injection e1 with e1 _ _
    subst e1
    simp [World.frozen?, hg]
theorem own_put {w : World} {B : Nat} {e : TypeId} {size r n c k : Nat} {xs : List Value} (h : w.ownsRow B e size (.slice (some ⟨r, 0, none⟩) n c) n xs) (u : Value) : (w.setCell ⟨r, k, none⟩ u).ownsRow B e size (.slice (some ⟨r, 0, none⟩) n c) n (xs.set k u) := by
  rcases h.2 with ⟨e1, -⟩ | ⟨g', c', cur, e1, hB, hg, hnc, hcm, hcs, htk⟩
  · cases e1
  · injection e1 with e1 e2 e3
    injection e1 with e1
    injection e1 with e1 _ _
    subst e1
    subst e3
    have hs := setCell_eq_setRow w r k cur e (0, 0) u hg
    have hg2 := setRow_heap w r cur (cur.setIfInBounds k u) e (0, 0) hg
    rw [← hs] at hg2
    refine ⟨by rw [List.length_set]; exact h.1, .inr ⟨r, c, _, rfl, hB, hg2, hnc, hcm, by simpa using hcs, ?_⟩⟩
    rw [Array.toList_setIfInBounds, List.take_set, htk]
theorem Tab.kept {w w' : World} {lo B : Nat} {R : Nat → Nat} {n : Nat} {m : Tb} (h : Tab w lo B R n m) (hb : w'.heap[B]? = w.heap[B]?) (hr : ∀ i, i < n → w'.heap[R i]? = w.heap[R i]?) : Tab w' lo B R n m := by
  have go : ∀ {e : TypeId} {r : Nat} {xs : List Value}, w'.heap[r]? = w.heap[r]? → w.ownsRow lo e 1 (.slice (some ⟨r, 0, none⟩) n n) n xs → w'.ownsRow lo e 1 (.slice (some ⟨r, 0, none⟩) n n) n xs := fun hq h => by
    refine ⟨h.1, ?_⟩
    rcases h.2 with h2 | ⟨g, cap, cur, e1, h4, h5, h6⟩
    · exact .inl h2
    · injection e1 with e1 e2 e3
      injection e1 with e1
      injection e1 with e1 _ _
      subst e1
      subst e3
      exact .inr ⟨_, _, cur, rfl, h4, hq.trans h5, h6⟩
  exact ⟨go hb h.out, fun i hi => go (hr i hi) (h.row i hi), h.off⟩
theorem Tab.below {w w' : World} {lo B : Nat} {R : Nat → Nat} {n : Nat} {m : Tb} (h : Tab w lo B R n m) (hb : Below w.heap.size w w') : Tab w' lo B R n m :=
  h.kept (hb.block B (h.out.lt B rfl).2) (fun i hi => hb.block _ ((h.row i hi).lt _ rfl).2)
def updT (m : Tb) (i j : Nat) (x : Bool) : Tb := fun a b => if a = i ∧ b = j then x else m a b
theorem Tab.ext {w : World} {lo B : Nat} {R : Nat → Nat} {n : Nat} {m m' : Tb} (h : Tab w lo B R n m) (he : ∀ i j, i < n → j < n → m i j = m' i j) : Tab w lo B R n m' := by
  refine ⟨h.out, fun i hi => ?_, h.off⟩
  have e : rowT n m i = rowT n m' i := by
    unfold rowT
    apply List.map_congr_left
    intro j hj
    rw [he i j hi (List.mem_range.1 hj)]
  rw [← e]
  exact h.row i hi
/-- One place is stored into. -/
theorem Tab.set {w : World} {lo B : Nat} {R : Nat → Nat} {n : Nat} {m : Tb} (h : Tab w lo B R n m) {i j : Nat} (hi : i < n) (hj : j < n) (x : Bool) : Tab (w.setCell ⟨R i, j, none⟩ (.bool x)) lo B R n (updT m i j x) := by
  have hother : ∀ r, r ≠ R i → (w.setCell ⟨R i, j, none⟩ (.bool x)).heap[r]? = w.heap[r]? := fun r hr => Below.heap_setCell w _ _ r hr
  have k := h.kept (w' := w)
  obtain ⟨hiB, hinj⟩ := h.off i hi
  refine ⟨?_, fun a ha => ?_, h.off⟩
  · exact h.out.kept (grown_cell w ⟨R i, j, none⟩ (.bool x)) (.inr (fun e => by injection e with e; exact hiB e.symm))
  · by_cases ea : a = i
    · subst ea
      have h1 := own_put (k := j) (h.row a ha) (.bool x)
      have e : (rowT n m a).set j (.bool x) = rowT n (updT m a j x) a := by
        apply List.ext_getElem?
        intro q
        rw [List.getElem?_set, rowT_len]
        by_cases hq : q < n
        · rw [rowT_at hq, rowT_at hq]
          unfold updT
          by_cases e : j = q
          · subst e
            rw [if_pos rfl, if_pos hq, if_pos ⟨rfl, rfl⟩]
          · rw [if_neg e, if_neg (fun e2 => e e2.2.symm)]
        · have hn : ∀ mm : Tb, (rowT n mm a)[q]? = none := fun mm => List.getElem?_eq_none (by rw [rowT_len]; omega)
          rw [hn, hn]
          by_cases e : j = q
          · rw [if_pos e, if_neg (by omega)]
          · rw [if_neg e]
      rw [e] at h1
      exact h1
    · have e : rowT n (updT m i j x) a = rowT n m a := by
        unfold rowT
        apply List.map_congr_left
        intro q _
        unfold updT
        rw [if_neg (fun e => ea e.1)]
      rw [e]
      exact (h.row a ha).kept (grown_cell w ⟨R i, j, none⟩ (.bool x)) (.inr (fun e => by injection e with e; exact ea (hinj a ha e.symm).symm))
theorem made_bools (n : Nat) : (madeCells (Value.bool false).cells (n * 1)).toList = List.replicate n (.bool false) := by
  rw [Nat.mul_one]
  have e : (Value.bool false).cells = #[.bool false] := rfl
  rw [e]
  apply List.ext_getElem
  · simp [madeCells]
  · intro i h1 h2
    simp [madeCells, Nat.mod_one]
theorem made_slices (n : Nat) : (madeCells (Value.slice none 0 0).cells (n * 1)).toList = List.replicate n (.slice none 0 0) := by
  rw [Nat.mul_one]
  have e : (Value.slice none 0 0).cells = #[.slice none 0 0] := rfl
  rw [e]
  apply List.ext_getElem
  · simp [madeCells]
  · intro i h1 h2
    simp [madeCells, Nat.mod_one]
end Go.Proofs.Ytcpmcgbjmncalaa.Paths

namespace Go.Proofs.Ytcpmcgbjmncalaa.Paths
open Go.RowKit Go.Proofs.Ytcpmcgbjmncalaa.Ints Go.Proofs.Ytcpmcgbjmncalaa.Mem Go.Proofs.Ytcpmcgbjmncalaa.Src

/-- The place of a number in a list; -1: none. -/
def numT (zs : List Int) (x : Int) : Int := if zs.findIdx (· == x) < zs.length then ((zs.findIdx (· == x) : Nat) : Int) else -1
theorem num_at {zs : List Int} {x : Int} {i : Nat} (hi : i < zs.length) (h : zs[i]?.getD 0 = x) (hb : ∀ m, m < i → zs[m]?.getD 0 ≠ x) : numT zs x = (i : Nat) := by
  have e : zs.findIdx (· == x) = i := by
    rw [List.findIdx_eq hi]
    refine ⟨?_, fun j hj => ?_⟩
    · rw [List.getElem?_eq_getElem hi] at h
      exact beq_iff_eq.2 h
    · have := hb j hj
      rw [List.getElem?_eq_getElem (by omega)] at this
      exact Bool.eq_false_iff.2 (fun e => this (beq_iff_eq.1 e))
  unfold numT
  rw [e, if_pos hi]
end Go.Proofs.Ytcpmcgbjmncalaa.Paths

namespace Go.Proofs.Ytcpmcgbjmncalaa.Late
open Go

section
variable {P : Program} {ops : Array Oper} {Q : Exit → Act → World → Prop} {md : Region.Mode} {S : World → Prop} {late : List Nat}

/-- Whatever order is picked: S holds behind each operation, till a late one comes up; behind that nothing is asked. -/
def wpAnyL (P : Program) (md : Region.Mode) (ops : Array Oper) (Q : Exit → Act → World → Prop) (S : World → Prop) (late : List Nat) : Nat → Array Bool → Act → World → Prop
  | 0, listed, a, w => Region.ready md ops listed = [] ∧ Q .normal a w
  | fuel + 1, listed, a, w =>
    (Region.ready md ops listed = [] → Q .normal a w) ∧
    ∀ i ∈ Region.ready md ops listed, wpOp P ops Q i (fun a' w' => if late.contains i = true then wpAnyH P md ops Q (fun _ => True) fuel (listed.setIfInBounds i true) a' w' else S w' ∧ wpAnyL P md ops Q S late fuel (listed.setIfInBounds i true) a' w') a w

theorem wpAny_of_late : ∀ (fuel : Nat) (listed : Array Bool) (a : Act) (w : World), wpAnyL P md ops Q S late fuel listed a w → wpAny P md ops Q fuel listed a w
  | 0, _, _, _, h => h
  | fuel + 1, _, _, _, h => ⟨h.1, fun i hi => wpOp_mono (fun a' w' h' => by
      by_cases hl : late.contains i = true
      · rw [if_pos hl] at h'
        exact wpAny_of_held fuel _ a' w' h'
      · rw [if_neg hl] at h'
        exact wpAny_of_late fuel _ a' w' h'.2) (h.2 i hi)⟩

/-- Those that wait for number i, whatever the order. -/
def waiters (md : Region.Mode) (ops : Array Oper) (i : Nat) : List Nat :=
  (List.range ops.size).foldl (fun acc j => match ops[j]? with
    | none => acc
    | some o => if o.after.toList.any (fun e => Region.binds md e && (e.on == i || acc.contains e.on)) then j :: acc else acc) []
/-- Each of W waits for i, or for another one of W. -/
def waits (md : Region.Mode) (ops : Array Oper) (i : Nat) (W : List Nat) : Bool :=
  W.all fun j => match ops[j]? with
    | none => false
    | some o => o.after.toList.any fun e => Region.binds md e && (e.on == i || W.contains e.on)
/-- No late one comes up before number i. -/
def lateOk (md : Region.Mode) (ops : Array Oper) (late : List Nat) (listed : Array Bool) (i : Nat) : Bool :=
  waits md ops i (waiters md ops i) && late.all (fun j => (waiters md ops i).contains j) && (waiters md ops i).all fun j => !(listed.getD j false)

theorem getD_two {l : Array Bool} {k : Nat} (h : l.getD k true = false) : l.getD k false = false := by
  rcases Nat.lt_or_ge k l.size with h' | h'
  · simp only [Array.getD_eq_getD_getElem?, Array.getElem?_eq_getElem h', Option.getD_some] at h ⊢
    exact h
  · simp only [Array.getD_eq_getD_getElem?, Array.getElem?_eq_none h', Option.getD_none] at h ⊢
/-- Of those that wait none is ready. -/
theorem not_ready {i : Nat} {W : List Nat} {listed : Array Bool} (hW : waits md ops i W = true) (hi : listed.getD i true = false) (hn : ∀ j ∈ W, listed.getD j false = false) : ∀ j ∈ W, j ∉ Region.ready md ops listed := fun j hj hr => by
  obtain ⟨-, o, ho, hall⟩ := mem_ready.1 hr
  have h1 := List.all_eq_true.1 hW j hj
  rw [ho] at h1
  obtain ⟨e, he, h1⟩ := List.any_eq_true.1 h1
  simp only [Bool.and_eq_true, Bool.or_eq_true, beq_iff_eq] at h1
  obtain ⟨hb, h2⟩ := h1
  have h3 := hall e (Array.mem_toList_iff.1 he) hb
  rcases h2 with rfl | h2
  · rw [getD_two hi] at h3
    cases h3
  · rw [hn _ (List.contains_iff_mem.1 h2)] at h3
    cases h3

theorem first {i : Nat} {oi : Oper} {v : Value} {W : List Nat} (hi : ops[i]? = some oi) (hsel : ∀ (j : Nat) (o : Oper) cs b, ops[j]? = some o → o.op ≠ .select cs b)
    (hQ : ∀ c a w, Q (.panic c) (a.put oi.dst v) w → Q (.panic c) a w) (hW : waits md ops i W = true) (hL : ∀ j ∈ late, j ∈ W) :
    ∀ (fuel : Nat) (listed : Array Bool) (a : Act) (w : World),
      (∀ j oj, ops[j]? = some oj → j ≠ i → listed.getD j true = false → (∀ e ∈ oj.after, Region.binds md e = true → e.on ≠ i) → oi.apart ops oj = true) →
      i ∈ Region.ready md ops listed → (∀ j ∈ W, listed.getD j false = false) → YieldsIf P ops S oi v a → S w →
      wpAnyL P md ops Q S late fuel (listed.setIfInBounds i true) (a.put oi.dst v) w → wpAnyL P md ops Q S late (fuel + 1) listed a w := by
  intro fuel
  have hown : ∀ (fuel : Nat) (listed : Array Bool) (a : Act) (w : World), i ∈ Region.ready md ops listed → (∀ j ∈ W, listed.getD j false = false) → YieldsIf P ops S oi v a → S w → wpAnyL P md ops Q S late fuel (listed.setIfInBounds i true) (a.put oi.dst v) w →
      wpOp P ops Q i (fun a' w' => if late.contains i = true then wpAnyH P md ops Q (fun _ => True) fuel (listed.setIfInBounds i true) a' w' else S w' ∧ wpAnyL P md ops Q S late fuel (listed.setIfInBounds i true) a' w') a w := fun fuel listed a w hr hn hy hS H => by
    have hnl : ¬ late.contains i = true := fun e => not_ready hW (mem_ready.1 hr).1 hn i (hL i (List.contains_iff_mem.1 e)) hr
    exact hy.wpOp hi hS (by rw [if_neg hnl]; exact ⟨hS, H⟩)
  induction fuel with
  | zero =>
    intro listed a w _ hr hn hy hS H
    refine ⟨fun h => (by rw [h] at hr; cases hr), fun j hj => ?_⟩
    by_cases hji : j = i
    · subst hji; exact hown _ _ _ _ hr hn hy hS H
    · have := ready_mono hj hji
      rw [H.1] at this
      cases this
  | succ fuel ih =>
    intro listed a w hfree hr hn hy hS H
    refine ⟨fun h => (by rw [h] at hr; cases hr), fun j hj => ?_⟩
    by_cases hji : j = i
    · subst hji; exact hown _ _ _ _ hr hn hy hS H
    · have hnw : j ∉ W := fun e => not_ready hW (mem_ready.1 hr).1 hn j e hj
      have hnl : ¬ late.contains j = true := fun e => hnw (hL j (List.contains_iff_mem.1 e))
      have h1 := H.2 j (ready_mono hj hji)
      simp only [if_neg hnl] at h1 ⊢
      obtain ⟨hjun, oj, hoj, hall⟩ := mem_ready.1 hj
      have hnot : ∀ e ∈ oj.after, Region.binds md e = true → e.on ≠ i := fun e he hb heq => by
        have h2 := hall e he hb
        rw [heq, getD_two (mem_ready.1 hr).1] at h2
        cases h2
      have h2 := wpOp_putIf hoj (hfree j oj hoj hji hjun hnot) (fun cs b => hsel i oi cs b hi) (fun cs b => hsel j oj cs b hoj) hQ hy h1
      have hfree' : ∀ k ok, ops[k]? = some ok → k ≠ i → (listed.setIfInBounds j true).getD k true = false →
          (∀ e ∈ ok.after, Region.binds md e = true → e.on ≠ i) → oi.apart ops ok = true := fun k ok hk hki hun hno => by
        refine hfree k ok hk hki ?_ hno
        by_cases hjk : j = k
        · subst hjk; exact hjun
        · rw [getD_set_ne true hjk] at hun; exact hun
      have hn' : ∀ k ∈ W, (listed.setIfInBounds j true).getD k false = false := fun k hk => by
        rw [getD_set_ne false (fun e : j = k => hnw (e ▸ hk))]
        exact hn k hk
      refine wpOp_mono (fun a' w' h3 => ⟨h3.2.1, ih (listed.setIfInBounds j true) a' w' hfree' (ready_mono hr (Ne.symm hji)) hn' h3.1 h3.2.1 ?_⟩) h2
      rw [Array.setIfInBounds_comm _ _ hji]
      exact h3.2.2

/-- Number i may be taken first: it yields v in every world that meets S, and nothing late comes up before it. -/
theorem take {i : Nat} {oi : Oper} {v : Value} {fuel : Nat} {listed : Array Bool} {a : Act} {w : World} (hi : ops[i]? = some oi)
    (hs : Region.noSelect ops = true) (hf : Region.free md ops listed i = true) (hr : (Region.ready md ops listed).contains i = true) (hl : lateOk md ops late listed i = true)
    (hQ : ∀ c a w, Q (.panic c) (a.put oi.dst v) w → Q (.panic c) a w) (hy : YieldsIf P ops S oi v a) (hS : S w)
    (h : wpAnyL P md ops Q S late fuel (listed.setIfInBounds i true) (a.put oi.dst v) w) : wpAnyL P md ops Q S late (fuel + 1) listed a w := by
  unfold lateOk at hl
  simp only [Bool.and_eq_true] at hl
  exact first hi (Region.noSelect_spec hs) hQ hl.1.1 (fun j hj => List.contains_iff_mem.1 (List.all_eq_true.1 hl.1.2 j hj)) fuel listed a w (Region.free_spec hi hf) (by simpa using hr)
    (fun j hj => by have := List.all_eq_true.1 hl.2 j hj; simpa using this) hy hS h
/-- One that is not late comes up alone. -/
theorem early {k : Nat} {o : Oper} {fuel : Nat} {listed : Array Bool} {a : Act} {w : World} (hr : Region.ready md ops listed = [k]) (hl : late.contains k = false) (ho : ops[k]? = some o)
    (h : ∀ K' : Act → World → Prop, Shut (∀ a w, S w → (S w → wpAnyL P md ops Q S late fuel (listed.setIfInBounds k true) a w) → K' a w) → if Region.wanted o (yielded ops a.tmps) = true then Oper.wp P o a w K' Q else K' (a.put o.dst undef) w) :
    wpAnyL P md ops Q S late (fuel + 1) listed a w := by
  refine ⟨fun h0 => (by rw [hr] at h0; cases h0), fun j hj => ?_⟩
  rw [hr, List.mem_singleton] at hj
  subst hj
  simp only [hl, Bool.false_eq_true, if_false]
  exact wpOp_step ho fun K' hK => h K' fun a w hS hW => hK a w ⟨hS, hW hS⟩
/-- A late one comes up alone: from here on nothing is asked. -/
theorem last {k : Nat} {o : Oper} {fuel : Nat} {listed : Array Bool} {a : Act} {w : World} (hr : Region.ready md ops listed = [k]) (hl : late.contains k = true) (ho : ops[k]? = some o)
    (h : ∀ K' : Act → World → Prop, Shut (∀ a w, True → (True → wpAnyH P md ops Q (fun _ => True) fuel (listed.setIfInBounds k true) a w) → K' a w) → if Region.wanted o (yielded ops a.tmps) = true then Oper.wp P o a w K' Q else K' (a.put o.dst undef) w) :
    wpAnyL P md ops Q S late (fuel + 1) listed a w := by
  refine ⟨fun h0 => (by rw [hr] at h0; cases h0), fun j hj => ?_⟩
  rw [hr, List.mem_singleton] at hj
  subst hj
  simp only [hl, if_true]
  exact wpOp_step ho fun K' hK => h K' fun a w _ hW => hK a w (hW trivial)
/-- The beginning. -/
theorem drew {id : Nat} {a : Act} {w : World} (late : List Nat) (hm : P.follows .mixedOrders = true) (hS : S w.drew)
    (h : S w.drew → wpAnyL P .any ops Q S late ops.size (Array.replicate ops.size false) a w.drew) : (Code.region id ops true).wp P Q a w :=
  wp_region_any hm (wpAny_of_late _ _ _ _ (h hS))
end
end Go.Proofs.Ytcpmcgbjmncalaa.Late

namespace Go.Proofs.Ytcpmcgbjmncalaa.Paths
open Go.RowKit Go.Proofs.Ytcpmcgbjmncalaa.Ints Go.Proofs.Ytcpmcgbjmncalaa.Mem Go.Proofs.Ytcpmcgbjmncalaa.Src

/-- A slice that reads as a table. -/
def RdT (w : World) (A : Option Addr) (n : Nat) (m : Tb) : Prop := 0 < n → ∃ b off, A = some ⟨b, off, none⟩ ∧ ∀ i, i < n → ∃ K o c, w.cell? ⟨b, off + i, none⟩ = some (.slice (some ⟨K, o, none⟩) n c) ∧ n ≤ c ∧ c ≤ maxLen ∧ ∀ j, j < n → w.cell? ⟨K, o + j, none⟩ = some (.bool (m i j))
theorem RdT.below {w w' : World} {A : Option Addr} {n : Nat} {m : Tb} (h : RdT w A n m) (hb : Below w.heap.size w w') : RdT w' A n m := fun h0 => by
  obtain ⟨b, off, h1, h2⟩ := h h0
  refine ⟨b, off, h1, fun i hi => ?_⟩
  obtain ⟨K, o, c, h3, h4, h5, h6⟩ := h2 i hi
  exact ⟨K, o, c, below_cell hb h3, h4, h5, fun j hj => below_cell hb (h6 j hj)⟩
theorem Tab.reads {w : World} {lo B : Nat} {R : Nat → Nat} {n : Nat} {m : Tb} (h : Tab w lo B R n m) (hn : n ≤ maxLen) : RdT w (some ⟨B, 0, none⟩) n m := fun _ =>
  ⟨B, 0, rfl, fun i hi => ⟨R i, 0, n, by rw [Nat.zero_add]; exact h.outer hi, Nat.le_refl _, hn, fun j hj => by rw [Nat.zero_add]; exact h.inner hi hj⟩⟩
end Go.Proofs.Ytcpmcgbjmncalaa.Paths
