/-
  The walk of the landed pool's move (stage 13). By an AI agent.
  A drawn region in which loads stand beside a late store into what they read: S is asked only as long as nothing late has come up. By an AI agent.
-/
import Derived.Test.YtimbbfneaaglbaaGreatGHeadsPlays38
import Derived.Deep.RegionHeld3
namespace Go.Proofs.YtimbbfneaaglbaaGreat.Heads
open Go.RowKit Go.Proofs.YtimbbfneaaglbaaGreat.Ints Go.Proofs.YtimbbfneaaglbaaGreat.Mem Go.Proofs.YtimbbfneaaglbaaGreat.Src Go.Proofs.YtimbbfneaaglbaaGreat.Scan

theorem own_cell_set {w : World} {B : Nat} {e : TypeId} {size r n c k : Nat} {xs : List Value} (h : w.ownsRow B e size (.slice (some ⟨r, 0, none⟩) n c) n xs) (u : Value) (_hk : k < n * size) :
    (w.setCell ⟨r, k, none⟩ u).ownsRow B e size (.slice (some ⟨r, 0, none⟩) n c) n (xs.set k u) := by
  rcases h.2 with ⟨e1, -⟩ | ⟨g', c', cur, e1, hB, hg, hnc, hcm, hcs, htk⟩
  · cases e1
  · injection e1 with e1 e2 e3
    injection e1 with e1
    injection e1 with e1 _ _
    subst e1
    subst e3
    have hs := setCell_eq_setRow w r k cur e (0, 0) u hg
    have hg2 := setRow_heap w r cur (cur.setIfInBounds k u) e (0, 0) hg
    rw [← hs] at hg2
    refine ⟨by rw [List.length_set]; exact h.1, .inr ⟨r, c, _, rfl, hB, hg2, hnc, hcm, by simpa using hcs, ?_⟩⟩
    rw [Array.toList_setIfInBounds, List.take_set, htk]
theorem rowHd_set (l : List Hd) (i : Nat) (x y : Hd) (hi : l[i]? = some y) :
    (((((rowHd l).set (i * 5) (.int .i64 x.id)).set (i * 5 + 1) (.int .i64 x.at_)).set (i * 5 + 2) (.int .i64 x.ix)).set (i * 5 + 3) (.int .u64 x.tm)).set (i * 5 + 4) (.int .i64 x.ids) = rowHd (l.set i x) := by
  obtain ⟨hlt, -⟩ := List.getElem?_eq_some_iff.1 hi
  have e : l = l.take i ++ y :: l.drop (i + 1) := by
    conv => lhs; rw [← List.take_append_drop i l]
    rw [List.drop_eq_getElem_cons hlt, (List.getElem?_eq_some_iff.1 hi).2]
  have hl : (rowHd (l.take i)).length = i * 5 := by rw [rowHd_len, List.length_take, Nat.min_eq_left (by omega)]
  have e2 : l.set i x = l.take i ++ x :: l.drop (i + 1) := by rw [List.set_eq_take_append_cons_drop, if_pos hlt]
  rw [e2]
  conv => lhs; rw [e]
  rw [rowHd_append, rowHd_append, rowHd_cons, rowHd_cons]
  generalize rowHd (l.take i) = P at hl
  generalize rowHd (l.drop (i + 1)) = R
  simp only [cellsHd, List.cons_append, List.nil_append]
  have hs : ∀ (Q : List Value) (k : Nat) (u : Value), (P ++ Q).set (i * 5 + k) u = P ++ Q.set k u := fun Q k u => by
    rw [List.set_append_right _ _ (by omega), hl, Nat.add_sub_cancel_left]
  have h0 : ∀ (Q : List Value) (u : Value), (P ++ Q).set (i * 5) u = P ++ Q.set 0 u := fun Q u => hs Q 0 u
  rw [h0, hs, hs, hs, hs]
  rfl

theorem row_fz {w : World} {B : Nat} {e : TypeId} {size r n c : Nat} {xs : List Value} (h : w.ownsRow B e size (.slice (some ⟨r, 0, none⟩) n c) n xs) (k : Nat) : w.frozen? ⟨r, k, none⟩ = false := by
  rcases h.2 with ⟨e1, -⟩ | ⟨g', c', cur, e1, hB, hg, -⟩
  · cases e1
  · injection e1 with e1 e2 e3
    injection e1 with e1
    injection e1 with e1 _ _
    subst e1
    simp [World.frozen?, hg]
theorem left_set {D : Nat → Prop} {w w' : World} (h : Left D w w') (p : Addr) (u : Value) (hp : D p.block ∨ w.heap.size ≤ p.block) : Left D w (w'.setCell p u) :=
  ⟨h.os, h.tape, h.output, by simpa using h.size, fun q hq hn => by rw [Below.heap_setCell w' p u q (fun e => by subst e; rcases hp with hp | hp; exact hn hp; omega)]; exact h.block q hq hn⟩
theorem left_drew {D : Nat → Prop} {w w' : World} (h : Left D w w') : Left D w w'.drew := ⟨h.os, h.tape, h.output, h.size, h.block⟩
set_option maxHeartbeats 8000000 in
set_option maxRecDepth 100000 in
theorem moveC (g r n c i cl pk : Nat) (u0 u1 u2 u3 : Value) (l : List Hd) (x y : Hd) (w : World) (hb : Blk w g [u0, u1, u2, u3, .slice (some ⟨r, 0, none⟩) n c, .int .i64 (cl : Nat), .int .i64 (pk : Nat)]) (hr : w.ownsRow (g + 1) 78 5 (.slice (some ⟨r, 0, none⟩) n c) n (rowHd l)) (hl : l.length = n) (_hn : n ≤ 1000000) (_hnc : n ≤ c)
    (hi : l[i]? = some y) (hx : 0 ≤ x.ids ∧ x.ids ≤ 1000000) (hy : 0 ≤ y.ids ∧ y.ids ≤ 1000000) (hd : 0 ≤ (cl : Int) + (x.ids - y.ids) ∧ (cl : Int) + (x.ids - y.ids) ≤ 1000000000) :
    Calls Tryz.prog 78 #[.pointer (some ⟨g, 0, none⟩), .int .i64 (i : Nat), .agg #[.int .i64 x.id, .int .i64 x.at_, .int .i64 x.ix, .int .u64 x.tm, .int .i64 x.ids]] w fun e w' => e = .returned (.tuple #[]) ∧
      Blk w' g [u0, u1, u2, u3, .slice (some ⟨r, 0, none⟩) n c, .int .i64 ((cl : Int) + (x.ids - y.ids)), .int .i64 (max (pk : Int) ((cl : Int) + (x.ids - y.ids)))] ∧ w'.ownsRow (g + 1) 78 5 (.slice (some ⟨r, 0, none⟩) n c) n (rowHd (l.set i x)) ∧ Left (fun k => k = g ∨ k = r) w w' := by
  have hin : i < n := by rw [← hl]; exact (List.getElem?_eq_some_iff.1 hi).1
  have hgl := hb.1
  have hrg : g < r := by have := (hr.lt r rfl).1; omega
  have hrl : r < w.heap.size := (hr.lt r rfl).2
  obtain ⟨T, hT⟩ : ∃ T, (w.alloc (.cells #[.int .i64 x.id, .int .i64 x.at_, .int .i64 x.ix, .int .u64 x.tm, .int .i64 x.ids] 78)).drew = T := ⟨_, rfl⟩
  have hal : Below w.heap.size w T := by rw [← hT]; exact ((Below.refl _ w).alloc (Nat.le_refl _) _).drew
  have HB := Lib.hid (hb.later hal)
  have HX := Lib.hid (show Blk T w.heap.size [.int .i64 x.id, .int .i64 x.at_, .int .i64 x.ix, .int .u64 x.tm, .int .i64 x.ids] by rw [← hT]; exact (Blk.new w _ _ _ rfl).drew)
  have HR := Lib.hid (below_row hr hal)
  have HBL := Lib.hid hal
  have HD := Lib.hid hd
  have HCX := Lib.hid (fun W => cellsC x W hx)
  have HCY := Lib.hid (fun W => cellsC y W hy)
  have HSC := Lib.hid (show ∀ (W : World) (v5 v6 : Int), Blk W g [u0, u1, u2, u3, .slice (some ⟨r, 0, none⟩) n c, .int .i64 v5, .int .i64 v6] → Blk W w.heap.size [.int .i64 x.id, .int .i64 x.at_, .int .i64 x.ix, .int .u64 x.tm, .int .i64 x.ids] → W.ownsRow (g + 1) 78 5 (.slice (some ⟨r, 0, none⟩) n c) n (rowHd l) → (W.cell? ⟨w.heap.size, 0, none⟩ = some (.int .i64 x.id) ∧ W.cell? ⟨w.heap.size, 1, none⟩ = some (.int .i64 x.at_) ∧ W.cell? ⟨w.heap.size, 2, none⟩ = some (.int .i64 x.ix) ∧ W.cell? ⟨w.heap.size, 3, none⟩ = some (.int .u64 x.tm) ∧ W.cell? ⟨w.heap.size, 4, none⟩ = some (.int .i64 x.ids)) ∧ W.cell? ⟨g, 4, none⟩ = some (.slice (some ⟨r, 0, none⟩) n c) ∧ W.cell? ⟨r, i * 5, none⟩ = some (.int .i64 y.id) ∧ W.cell? ⟨r, i * 5 + 1, none⟩ = some (.int .i64 y.at_) ∧ W.cell? ⟨r, i * 5 + 2, none⟩ = some (.int .i64 y.ix) ∧ W.cell? ⟨r, i * 5 + 3, none⟩ = some (.int .u64 y.tm) ∧ W.cell? ⟨r, i * 5 + 4, none⟩ = some (.int .i64 y.ids) from
    fun W v5 v6 h1 h2 h3 => ⟨⟨h2.cell 0 rfl, h2.cell 1 rfl, h2.cell 2 rfl, h2.cell 3 rfl, h2.cell 4 rfl⟩, h1.cell 4 rfl, row_cell h3 hi⟩)
  have HSB := Lib.hid (fun W => HSC.out W (cl : Nat) (pk : Nat))
  have hwr : IntKind.i64.wrap (3 + x.ids - (3 + y.ids)) = x.ids - y.ids := by rw [IntKind.wrap_i64]; omega
  have h0 := HSB.out _ HB.out HX.out HR.out
  have HI := Lib.hid hi
  clear hb hr hal hi hx hy hd
  go_enter Tryz.func78, Tryz.ntmps78
  go_wp2_with fail
  refine wp_region_held_drew (S := fun W => (W.cell? ⟨w.heap.size, 0, none⟩ = some (.int .i64 x.id) ∧ W.cell? ⟨w.heap.size, 1, none⟩ = some (.int .i64 x.at_) ∧ W.cell? ⟨w.heap.size, 2, none⟩ = some (.int .i64 x.ix) ∧ W.cell? ⟨w.heap.size, 3, none⟩ = some (.int .u64 x.tm) ∧ W.cell? ⟨w.heap.size, 4, none⟩ = some (.int .i64 x.ids)) ∧ W.cell? ⟨g, 4, none⟩ = some (.slice (some ⟨r, 0, none⟩) n c) ∧ W.cell? ⟨r, i * 5, none⟩ = some (.int .i64 y.id) ∧ W.cell? ⟨r, i * 5 + 1, none⟩ = some (.int .i64 y.at_) ∧ W.cell? ⟨r, i * 5 + 2, none⟩ = some (.int .i64 y.ix) ∧ W.cell? ⟨r, i * 5 + 3, none⟩ = some (.int .u64 y.tm) ∧ W.cell? ⟨r, i * 5 + 4, none⟩ = some (.int .i64 y.ids)) (by kernel_rfl) (by rw [hT]; exact h0) (fun hHeld => ?_)
  rw [hT] at hHeld ⊢
  clear hT h0
  refine wpAnyH_take (i := 0) (oi := ?tko1) (v := ?tkv1) ?tkh1 (by kernel_rfl) (by kernel_rfl) (by kernel_rfl) ?tkq1 ?tky1 hHeld ?tkr1
  case tkh1 => (simp only [List.getElem?_toArray, List.getElem?_cons_zero]; rfl)
  case tkq1 => exact fun _ _ _ h => h
  case tky1 => exact Or.inl ⟨by rfl, by intro wSw hSw; (try dsimp only at hSw); go_simp; try with_reducible rfl⟩
  try simp only [Act.put, List.setIfInBounds_toArray, List.set_cons_zero, List.set_cons_succ]
  refine wpAnyH_take (i := 1) (oi := ?tko2) (v := ?tkv2) ?tkh2 (by kernel_rfl) (by kernel_rfl) (by kernel_rfl) ?tkq2 ?tky2 hHeld ?tkr2
  case tkh2 => (simp only [List.getElem?_toArray, List.getElem?_cons_succ, List.getElem?_cons_zero]; rfl)
  case tkq2 => exact fun _ _ _ h => h
  case tky2 => exact Or.inl ⟨by rfl, by intro wSw hSw; (try dsimp only at hSw); go_simp; try with_reducible rfl⟩
  try simp only [Act.put, List.setIfInBounds_toArray, List.set_cons_zero, List.set_cons_succ]
  refine wpAnyH_take (i := 3) (oi := ?tko3) (v := ?tkv3) ?tkh3 (by kernel_rfl) (by kernel_rfl) (by kernel_rfl) ?tkq3 ?tky3 hHeld ?tkr3
  case tkh3 => (simp only [List.getElem?_toArray, List.getElem?_cons_succ, List.getElem?_cons_zero]; rfl)
  case tkq3 => exact fun _ _ _ h => h
  case tky3 => exact Or.inl ⟨by rfl, by intro wSw hSw; (try dsimp only at hSw); go_simp; try with_reducible rfl⟩
  try simp only [Act.put, List.setIfInBounds_toArray, List.set_cons_zero, List.set_cons_succ]
  refine wpAnyH_take (i := 4) (oi := ?tko4) (v := ?tkv4) ?tkh4 (by kernel_rfl) (by kernel_rfl) (by kernel_rfl) ?tkq4 ?tky4 hHeld ?tkr4
  case tkh4 => (simp only [List.getElem?_toArray, List.getElem?_cons_succ, List.getElem?_cons_zero]; rfl)
  case tkq4 => exact fun _ _ _ h => h
  case tky4 => exact Or.inl ⟨by rfl, by intro wSw hSw; (try dsimp only at hSw); go_simp; try with_reducible rfl⟩
  try simp only [Act.put, List.setIfInBounds_toArray, List.set_cons_zero, List.set_cons_succ]
  refine wpAnyH_take (i := 5) (oi := ?tko5) (v := ?tkv5) ?tkh5 (by kernel_rfl) (by kernel_rfl) (by kernel_rfl) ?tkq5 ?tky5 hHeld ?tkr5
  case tkh5 => (simp only [List.getElem?_toArray, List.getElem?_cons_succ, List.getElem?_cons_zero]; rfl)
  case tkq5 => exact fun _ _ _ h => h
  case tky5 => exact Or.inl ⟨by rfl, by intro wSw hSw; (try dsimp only at hSw); go_simp; try with_reducible rfl⟩
  try simp only [Act.put, List.setIfInBounds_toArray, List.set_cons_zero, List.set_cons_succ]
  refine wpAnyH_take (i := 6) (oi := ?tko6) (v := ?tkv6) ?tkh6 (by kernel_rfl) (by kernel_rfl) (by kernel_rfl) ?tkq6 ?tky6 hHeld ?tkr6
  case tkh6 => (simp only [List.getElem?_toArray, List.getElem?_cons_succ, List.getElem?_cons_zero]; rfl)
  case tkq6 => exact fun _ _ _ h => h
  case tky6 => exact Or.inl ⟨by rfl, by intro wSw hSw; (try dsimp only at hSw); go_simp; try with_reducible rfl⟩
  try simp only [Act.put, List.setIfInBounds_toArray, List.set_cons_zero, List.set_cons_succ]
  refine wpAnyH_take (i := 7) (oi := ?tko7) (v := ?tkv7) ?tkh7 (by kernel_rfl) (by kernel_rfl) (by kernel_rfl) ?tkq7 ?tky7 hHeld ?tkr7
  case tkh7 => (simp only [List.getElem?_toArray, List.getElem?_cons_succ, List.getElem?_cons_zero]; rfl)
  case tkq7 => exact fun _ _ _ h => h
  case tky7 => exact Or.inl ⟨by rfl, by intro wSw hSw; (try dsimp only at hSw); go_simp; try with_reducible rfl⟩
  try simp only [Act.put, List.setIfInBounds_toArray, List.set_cons_zero, List.set_cons_succ]
  refine wpAnyH_take (i := 8) (oi := ?tko8) (v := ?tkv8) ?tkh8 (by kernel_rfl) (by kernel_rfl) (by kernel_rfl) ?tkq8 ?tky8 hHeld ?tkr8
  case tkh8 => (simp only [List.getElem?_toArray, List.getElem?_cons_succ, List.getElem?_cons_zero]; rfl)
  case tkq8 => exact fun _ _ _ h => h
  case tky8 => exact Or.inl ⟨by rfl, by intro wSw hSw; (try dsimp only at hSw); go_simp; try with_reducible rfl⟩
  try simp only [Act.put, List.setIfInBounds_toArray, List.set_cons_zero, List.set_cons_succ]
  refine wpAnyH_take (i := 9) (oi := ?tko9) (v := ?tkv9) ?tkh9 (by kernel_rfl) (by kernel_rfl) (by kernel_rfl) ?tkq9 ?tky9 hHeld ?tkr9
  case tkh9 => (simp only [List.getElem?_toArray, List.getElem?_cons_succ, List.getElem?_cons_zero]; rfl)
  case tkq9 => exact fun _ _ _ h => h
  case tky9 => exact Or.inl ⟨by rfl, by intro wSw hSw; (try dsimp only at hSw); go_simp; try with_reducible rfl⟩
  try simp only [Act.put, List.setIfInBounds_toArray, List.set_cons_zero, List.set_cons_succ]
  refine wpAnyH_ready (rs := [2]) (by kernel_rfl) (by simp) ?_
  refine AllReadyH.cons (o := ?tko10) ?tkh10 (fun Kt10 hKt10 => ?_) AllReadyH.nil
  case tkh10 => (simp only [List.getElem?_toArray, List.getElem?_cons_succ, List.getElem?_cons_zero]; rfl)
  go_simp
  (go_at_call 40; refine (HCX.out _).mono ?_; rintro e W1 ⟨rfl, hB1⟩)
  refine hKt10.out _ _ ?_ (fun hHt10 => ?_)
  · (exact HSB.out _ (HB.out.later hB1) (HX.out.later hB1) (below_row HR.out hB1))
  clear hKt10 Kt10 hHeld
  have hHeld := hHt10
  clear hHt10
  try simp only [Act.put, List.setIfInBounds_toArray, List.set_cons_zero, List.set_cons_succ]
  refine wpAnyH_ready (rs := [10]) (by kernel_rfl) (by simp) ?_
  refine AllReadyH.cons (o := ?tko11) ?tkh11 (fun Kt11 hKt11 => ?_) AllReadyH.nil
  case tkh11 => (simp only [List.getElem?_toArray, List.getElem?_cons_succ, List.getElem?_cons_zero]; rfl)
  go_simp
  (go_at_call 40; refine (HCY.out _).mono ?_; rintro e W2 ⟨rfl, hB2⟩)
  refine hKt11.out _ _ ?_ (fun hHt11 => ?_)
  · (exact HSB.out _ ((HB.out.later hB1).later hB2) ((HX.out.later hB1).later hB2) (below_row (below_row HR.out hB1) hB2))
  clear hKt11 Kt11 hHeld
  have hHeld := hHt11
  clear hHt11
  try simp only [Act.put, List.setIfInBounds_toArray, List.set_cons_zero, List.set_cons_succ]
  have hB12 := hB1.trans (hB2.mono hB1.size)
  have HB2 := Lib.hid (HB.out.later hB12)
  have HX2 := Lib.hid (HX.out.later hB12)
  have HR2 := Lib.hid (below_row HR.out hB12)
  have HBL2 := Lib.hid (HBL.out.trans (hB12.mono HBL.out.size))
  clear hB1 hB2 hB12
  refine wpAnyH_take (i := 11) (oi := ?tko12) (v := ?tkv12) ?tkh12 (by kernel_rfl) (by kernel_rfl) (by kernel_rfl) ?tkq12 ?tky12 hHeld ?tkr12
  case tkh12 => (simp only [List.getElem?_toArray, List.getElem?_cons_succ, List.getElem?_cons_zero]; rfl)
  case tkq12 => exact fun _ _ _ h => h
  case tky12 => exact Or.inl ⟨by rfl, by intro wSw hSw; (try dsimp only at hSw); go_simp; try with_reducible rfl⟩
  try simp only [Act.put, List.setIfInBounds_toArray, List.set_cons_zero, List.set_cons_succ]
  refine wpAnyH_ready (rs := [12]) (by kernel_rfl) (by simp) ?_
  refine AllReadyH.cons (o := ?tko13) ?tkh13 (fun Kt13 hKt13 => ?_) AllReadyH.nil
  case tkh13 => (simp only [List.getElem?_toArray, List.getElem?_cons_succ, List.getElem?_cons_zero]; rfl)
  go_simp
  (go_at_call 39; refine (countC g cl pk (x.ids - y.ids) u0 u1 u2 u3 (.slice (some ⟨r, 0, none⟩) n c) W2 HB2.out HD.out).mono ?_; rintro e w3 ⟨rfl, hb3, hg3⟩)
  refine hKt13.out _ _ ?_ (fun hHt13 => ?_)
  · (exact HSC.out _ _ _ hb3 (HX2.out.grown hg3 (fun e => by injection e with e; omega)) (row_apart HR2.out hg3 (by omega)))
  clear hKt13 Kt13 hHeld
  have hHeld := hHt13
  clear hHt13
  try simp only [Act.put, List.setIfInBounds_toArray, List.set_cons_zero, List.set_cons_succ]
  refine wpAnyH_done (by kernel_rfl) ?_ _
  have HB3 := Lib.hid hb3
  have HX3 := Lib.hid (HX2.out.grown hg3 (fun e => by injection e with e; omega))
  have HR3 := Lib.hid (row_apart HR2.out hg3 (by omega))
  have HBL3 := Lib.hid (show Left (fun k => k = g ∨ k = r) w w3 from (Left.of_below HBL2.out).trans (Left.of_grown (D := fun k => k = g ∨ k = r) hg3 (fun q e => by injection e with e; exact .inl e.symm)) (fun _ e => .inl e))
  have HSD := Lib.hid (show ∀ (W : World), Blk W g [u0, u1, u2, u3, .slice (some ⟨r, 0, none⟩) n c, .int .i64 ((cl : Int) + (x.ids - y.ids)), .int .i64 (max (pk : Int) ((cl : Int) + (x.ids - y.ids)))] → Blk W w.heap.size [.int .i64 x.id, .int .i64 x.at_, .int .i64 x.ix, .int .u64 x.tm, .int .i64 x.ids] → (W.cell? ⟨w.heap.size, 0, none⟩ = some (.int .i64 x.id) ∧ W.cell? ⟨w.heap.size, 1, none⟩ = some (.int .i64 x.at_) ∧ W.cell? ⟨w.heap.size, 2, none⟩ = some (.int .i64 x.ix) ∧ W.cell? ⟨w.heap.size, 3, none⟩ = some (.int .u64 x.tm) ∧ W.cell? ⟨w.heap.size, 4, none⟩ = some (.int .i64 x.ids)) ∧ W.cell? ⟨g, 4, none⟩ = some (.slice (some ⟨r, 0, none⟩) n c) from
    fun W h1 h2 => ⟨⟨h2.cell 0 rfl, h2.cell 1 rfl, h2.cell 2 rfl, h2.cell 3 rfl, h2.cell 4 rfl⟩, h1.cell 4 rfl⟩)
  clear hHeld hb3 hg3 HB2 HX2 HR2 HBL2 HB HX HR HBL HSB HD HCX HCY
  go_wp2_with fail
  refine wp_region_held_drew (S := fun W => (W.cell? ⟨w.heap.size, 0, none⟩ = some (.int .i64 x.id) ∧ W.cell? ⟨w.heap.size, 1, none⟩ = some (.int .i64 x.at_) ∧ W.cell? ⟨w.heap.size, 2, none⟩ = some (.int .i64 x.ix) ∧ W.cell? ⟨w.heap.size, 3, none⟩ = some (.int .u64 x.tm) ∧ W.cell? ⟨w.heap.size, 4, none⟩ = some (.int .i64 x.ids)) ∧ W.cell? ⟨g, 4, none⟩ = some (.slice (some ⟨r, 0, none⟩) n c)) (by kernel_rfl) (HSD.out _ HB3.out.drew HX3.out.drew) (fun hHeld => ?_)
  refine wpAnyH_take (i := 0) (oi := ?tko14) (v := ?tkv14) ?tkh14 (by kernel_rfl) (by kernel_rfl) (by kernel_rfl) ?tkq14 ?tky14 hHeld ?tkr14
  case tkh14 => (simp only [List.getElem?_toArray, List.getElem?_cons_zero]; rfl)
  case tkq14 => exact fun _ _ _ h => h
  case tky14 => exact Or.inl ⟨by rfl, by intro wSw hSw; (try dsimp only at hSw); go_simp; try with_reducible rfl⟩
  try simp only [Act.put, List.setIfInBounds_toArray, List.set_cons_zero, List.set_cons_succ]
  refine wpAnyH_take (i := 1) (oi := ?tko15) (v := ?tkv15) ?tkh15 (by kernel_rfl) (by kernel_rfl) (by kernel_rfl) ?tkq15 ?tky15 hHeld ?tkr15
  case tkh15 => (simp only [List.getElem?_toArray, List.getElem?_cons_succ, List.getElem?_cons_zero]; rfl)
  case tkq15 => exact fun _ _ _ h => h
  case tky15 => exact Or.inl ⟨by rfl, by intro wSw hSw; (try dsimp only at hSw); go_simp; try with_reducible rfl⟩
  try simp only [Act.put, List.setIfInBounds_toArray, List.set_cons_zero, List.set_cons_succ]
  refine wpAnyH_take (i := 2) (oi := ?tko16) (v := ?tkv16) ?tkh16 (by kernel_rfl) (by kernel_rfl) (by kernel_rfl) ?tkq16 ?tky16 hHeld ?tkr16
  case tkh16 => (simp only [List.getElem?_toArray, List.getElem?_cons_succ, List.getElem?_cons_zero]; rfl)
  case tkq16 => exact fun _ _ _ h => h
  case tky16 => exact Or.inl ⟨by rfl, by intro wSw hSw; (try dsimp only at hSw); go_simp; try with_reducible rfl⟩
  try simp only [Act.put, List.setIfInBounds_toArray, List.set_cons_zero, List.set_cons_succ]
  refine wpAnyH_take (i := 3) (oi := ?tko17) (v := ?tkv17) ?tkh17 (by kernel_rfl) (by kernel_rfl) (by kernel_rfl) ?tkq17 ?tky17 hHeld ?tkr17
  case tkh17 => (simp only [List.getElem?_toArray, List.getElem?_cons_succ, List.getElem?_cons_zero]; rfl)
  case tkq17 => exact fun _ _ _ h => h
  case tky17 => exact Or.inl ⟨by rfl, by intro wSw hSw; (try dsimp only at hSw); go_simp; try with_reducible rfl⟩
  try simp only [Act.put, List.setIfInBounds_toArray, List.set_cons_zero, List.set_cons_succ]
  refine wpAnyH_take (i := 4) (oi := ?tko18) (v := ?tkv18) ?tkh18 (by kernel_rfl) (by kernel_rfl) (by kernel_rfl) ?tkq18 ?tky18 hHeld ?tkr18
  case tkh18 => (simp only [List.getElem?_toArray, List.getElem?_cons_succ, List.getElem?_cons_zero]; rfl)
  case tkq18 => exact fun _ _ _ h => h
  case tky18 => exact Or.inl ⟨by rfl, by intro wSw hSw; (try dsimp only at hSw); go_simp; try with_reducible rfl⟩
  try simp only [Act.put, List.setIfInBounds_toArray, List.set_cons_zero, List.set_cons_succ]
  refine wpAnyH_take (i := 5) (oi := ?tko19) (v := ?tkv19) ?tkh19 (by kernel_rfl) (by kernel_rfl) (by kernel_rfl) ?tkq19 ?tky19 hHeld ?tkr19
  case tkh19 => (simp only [List.getElem?_toArray, List.getElem?_cons_succ, List.getElem?_cons_zero]; rfl)
  case tkq19 => exact fun _ _ _ h => h
  case tky19 => exact Or.inl ⟨by rfl, by intro wSw hSw; (try dsimp only at hSw); go_simp; try with_reducible rfl⟩
  try simp only [Act.put, List.setIfInBounds_toArray, List.set_cons_zero, List.set_cons_succ]
  refine wpAnyH_take (i := 6) (oi := ?tko20) (v := ?tkv20) ?tkh20 (by kernel_rfl) (by kernel_rfl) (by kernel_rfl) ?tkq20 ?tky20 hHeld ?tkr20
  case tkh20 => (simp only [List.getElem?_toArray, List.getElem?_cons_succ, List.getElem?_cons_zero]; rfl)
  case tkq20 => exact fun _ _ _ h => h
  case tky20 => exact Or.inl ⟨by rfl, by intro wSw hSw; (try dsimp only at hSw); go_simp; try with_reducible rfl⟩
  try simp only [Act.put, List.setIfInBounds_toArray, List.set_cons_zero, List.set_cons_succ]
  obtain ⟨k0, k1, k2, k3, k4⟩ := row_cell HR3.out HI.out
  have f0 := row_fz HR3.out (i * 5)
  have f1 := row_fz HR3.out (i * 5 + 1)
  have f2 := row_fz HR3.out (i * 5 + 2)
  have f3 := row_fz HR3.out (i * 5 + 3)
  have f4 := row_fz HR3.out (i * 5 + 4)
  have HR4 := Lib.hid (own_cell_set (own_cell_set (own_cell_set (own_cell_set (own_cell_set HR3.out (k := i * 5) (.int .i64 x.id) (by omega)) (k := i * 5 + 1) (.int .i64 x.at_) (by omega)) (k := i * 5 + 2) (.int .i64 x.ix) (by omega)) (k := i * 5 + 3) (.int .u64 x.tm) (by omega)) (k := i * 5 + 4) (.int .i64 x.ids) (by omega))
  rw [rowHd_set l i x y HI.out] at HR4
  have hgr : g ≠ r := by omega
  have hwr2 : w.heap.size ≠ r := by omega
  have HB4 := Lib.hid (((((HB3.out.other ⟨r, i * 5, none⟩ (.int .i64 x.id) hgr).other ⟨r, i * 5 + 1, none⟩ (.int .i64 x.at_) hgr).other ⟨r, i * 5 + 2, none⟩ (.int .i64 x.ix) hgr).other ⟨r, i * 5 + 3, none⟩ (.int .u64 x.tm) hgr).other ⟨r, i * 5 + 4, none⟩ (.int .i64 x.ids) hgr)
  have HX4 := Lib.hid (((((HX3.out.other ⟨r, i * 5, none⟩ (.int .i64 x.id) hwr2).other ⟨r, i * 5 + 1, none⟩ (.int .i64 x.at_) hwr2).other ⟨r, i * 5 + 2, none⟩ (.int .i64 x.ix) hwr2).other ⟨r, i * 5 + 3, none⟩ (.int .u64 x.tm) hwr2).other ⟨r, i * 5 + 4, none⟩ (.int .i64 x.ids) hwr2)
  have HBL4 := Lib.hid (left_set (left_set (left_set (left_set (left_set HBL3.out ⟨r, i * 5, none⟩ (.int .i64 x.id) (.inl (.inr rfl))) ⟨r, i * 5 + 1, none⟩ (.int .i64 x.at_) (.inl (.inr rfl))) ⟨r, i * 5 + 2, none⟩ (.int .i64 x.ix) (.inl (.inr rfl))) ⟨r, i * 5 + 3, none⟩ (.int .u64 x.tm) (.inl (.inr rfl))) ⟨r, i * 5 + 4, none⟩ (.int .i64 x.ids) (.inl (.inr rfl)))
  refine wpAnyH_ready (rs := [7]) (by kernel_rfl) (by simp) ?_
  refine AllReadyH.cons (o := ?oz) ?hz (fun K9 hK9 => ?_) AllReadyH.nil
  case hz => (simp only [List.getElem?_toArray, List.getElem?_cons_succ, List.getElem?_cons_zero]; rfl)
  go_simp
  refine hK9.out _ _ (HSD.out _ HB4.out.drew HX4.out.drew) (fun hHt => ?_)
  clear hK9 K9 hHeld hHt k0 k1 k2 k3 k4 f0 f1 f2 f3 f4
  refine wpAnyH_done (by kernel_rfl) ?_ _
  go_wp2_with fail
  go_end0
  exact ⟨rfl, HB4.out.drew, below_row HR4.out (Below.refl _ _).drew, left_drew HBL4.out⟩
end Go.Proofs.YtimbbfneaaglbaaGreat.Heads

namespace Go.Proofs.YtimbbfneaaglbaaGreat.Late
open Go

section
variable {P : Program} {ops : Array Oper} {Q : Exit → Act → World → Prop} {md : Region.Mode} {S : World → Prop} {late : List Nat}

/-- Whatever order is picked: S holds behind each operation, till a late one comes up; behind that nothing is asked. -/
def wpAnyL (P : Program) (md : Region.Mode) (ops : Array Oper) (Q : Exit → Act → World → Prop) (S : World → Prop) (late : List Nat) : Nat → Array Bool → Act → World → Prop
  | 0, listed, a, w => Region.ready md ops listed = [] ∧ Q .normal a w
  | fuel + 1, listed, a, w =>
    (Region.ready md ops listed = [] → Q .normal a w) ∧
    ∀ i ∈ Region.ready md ops listed, wpOp P ops Q i (fun a' w' => if late.contains i = true then wpAnyH P md ops Q (fun _ => True) fuel (listed.setIfInBounds i true) a' w' else S w' ∧ wpAnyL P md ops Q S late fuel (listed.setIfInBounds i true) a' w') a w

theorem wpAny_of_late : ∀ (fuel : Nat) (listed : Array Bool) (a : Act) (w : World), wpAnyL P md ops Q S late fuel listed a w → wpAny P md ops Q fuel listed a w
  | 0, _, _, _, h => h
  | fuel + 1, _, _, _, h => ⟨h.1, fun i hi => wpOp_mono (fun a' w' h' => by
      by_cases hl : late.contains i = true
      · rw [if_pos hl] at h'
        exact wpAny_of_held fuel _ a' w' h'
      · rw [if_neg hl] at h'
        exact wpAny_of_late fuel _ a' w' h'.2) (h.2 i hi)⟩

/-- Those that wait for number i, whatever the order. -/
def waiters (md : Region.Mode) (ops : Array Oper) (i : Nat) : List Nat :=
  (List.range ops.size).foldl (fun acc j => match ops[j]? with
    | none => acc
    | some o => if o.after.toList.any (fun e => Region.binds md e && (e.on == i || acc.contains e.on)) then j :: acc else acc) []
/-- Each of W waits for i, or for another one of W. -/
def waits (md : Region.Mode) (ops : Array Oper) (i : Nat) (W : List Nat) : Bool :=
  W.all fun j => match ops[j]? with
    | none => false
    | some o => o.after.toList.any fun e => Region.binds md e && (e.on == i || W.contains e.on)
/-- No late one comes up before number i. -/
def lateOk (md : Region.Mode) (ops : Array Oper) (late : List Nat) (listed : Array Bool) (i : Nat) : Bool :=
  waits md ops i (waiters md ops i) && late.all (fun j => (waiters md ops i).contains j) && (waiters md ops i).all fun j => !(listed.getD j false)

theorem getD_two {l : Array Bool} {k : Nat} (h : l.getD k true = false) : l.getD k false = false := by
  rcases Nat.lt_or_ge k l.size with h' | h'
  · simp only [Array.getD_eq_getD_getElem?, Array.getElem?_eq_getElem h', Option.getD_some] at h ⊢
    exact h
  · simp only [Array.getD_eq_getD_getElem?, Array.getElem?_eq_none h', Option.getD_none] at h ⊢
/-- Of those that wait none is ready. -/
theorem not_ready {i : Nat} {W : List Nat} {listed : Array Bool} (hW : waits md ops i W = true) (hi : listed.getD i true = false) (hn : ∀ j ∈ W, listed.getD j false = false) : ∀ j ∈ W, j ∉ Region.ready md ops listed := fun j hj hr => by
  obtain ⟨-, o, ho, hall⟩ := mem_ready.1 hr
  have h1 := List.all_eq_true.1 hW j hj
  rw [ho] at h1
  obtain ⟨e, he, h1⟩ := List.any_eq_true.1 h1
  simp only [Bool.and_eq_true, Bool.or_eq_true, beq_iff_eq] at h1
  obtain ⟨hb, h2⟩ := h1
  have h3 := hall e (Array.mem_toList_iff.1 he) hb
  rcases h2 with rfl | h2
  · rw [getD_two hi] at h3
    cases h3
  · rw [hn _ (List.contains_iff_mem.1 h2)] at h3
    cases h3

theorem first {i : Nat} {oi : Oper} {v : Value} {W : List Nat} (hi : ops[i]? = some oi) (hsel : ∀ (j : Nat) (o : Oper) cs b, ops[j]? = some o → o.op ≠ .select cs b)
    (hQ : ∀ c a w, Q (.panic c) (a.put oi.dst v) w → Q (.panic c) a w) (hW : waits md ops i W = true) (hL : ∀ j ∈ late, j ∈ W) :
    ∀ (fuel : Nat) (listed : Array Bool) (a : Act) (w : World),
      (∀ j oj, ops[j]? = some oj → j ≠ i → listed.getD j true = false → (∀ e ∈ oj.after, Region.binds md e = true → e.on ≠ i) → oi.apart ops oj = true) →
      i ∈ Region.ready md ops listed → (∀ j ∈ W, listed.getD j false = false) → YieldsIf P ops S oi v a → S w →
      wpAnyL P md ops Q S late fuel (listed.setIfInBounds i true) (a.put oi.dst v) w → wpAnyL P md ops Q S late (fuel + 1) listed a w := by
  intro fuel
  have hown : ∀ (fuel : Nat) (listed : Array Bool) (a : Act) (w : World), i ∈ Region.ready md ops listed → (∀ j ∈ W, listed.getD j false = false) → YieldsIf P ops S oi v a → S w → wpAnyL P md ops Q S late fuel (listed.setIfInBounds i true) (a.put oi.dst v) w →
      wpOp P ops Q i (fun a' w' => if late.contains i = true then wpAnyH P md ops Q (fun _ => True) fuel (listed.setIfInBounds i true) a' w' else S w' ∧ wpAnyL P md ops Q S late fuel (listed.setIfInBounds i true) a' w') a w := fun fuel listed a w hr hn hy hS H => by
    have hnl : ¬ late.contains i = true := fun e => not_ready hW (mem_ready.1 hr).1 hn i (hL i (List.contains_iff_mem.1 e)) hr
    exact hy.wpOp hi hS (by rw [if_neg hnl]; exact ⟨hS, H⟩)
  induction fuel with
  | zero =>
    intro listed a w _ hr hn hy hS H
    refine ⟨fun h => (by rw [h] at hr; cases hr), fun j hj => ?_⟩
    by_cases hji : j = i
    · subst hji; exact hown _ _ _ _ hr hn hy hS H
    · have := ready_mono hj hji
      rw [H.1] at this
      cases this
  | succ fuel ih =>
    intro listed a w hfree hr hn hy hS H
    refine ⟨fun h => (by rw [h] at hr; cases hr), fun j hj => ?_⟩
    by_cases hji : j = i
    · subst hji; exact hown _ _ _ _ hr hn hy hS H
    · have hnw : j ∉ W := fun e => not_ready hW (mem_ready.1 hr).1 hn j e hj
      have hnl : ¬ late.contains j = true := fun e => hnw (hL j (List.contains_iff_mem.1 e))
      have h1 := H.2 j (ready_mono hj hji)
      simp only [if_neg hnl] at h1 ⊢
      obtain ⟨hjun, oj, hoj, hall⟩ := mem_ready.1 hj
      have hnot : ∀ e ∈ oj.after, Region.binds md e = true → e.on ≠ i := fun e he hb heq => by
        have h2 := hall e he hb
        rw [heq, getD_two (mem_ready.1 hr).1] at h2
        cases h2
      have h2 := wpOp_putIf hoj (hfree j oj hoj hji hjun hnot) (fun cs b => hsel i oi cs b hi) (fun cs b => hsel j oj cs b hoj) hQ hy h1
      have hfree' : ∀ k ok, ops[k]? = some ok → k ≠ i → (listed.setIfInBounds j true).getD k true = false →
          (∀ e ∈ ok.after, Region.binds md e = true → e.on ≠ i) → oi.apart ops ok = true := fun k ok hk hki hun hno => by
        refine hfree k ok hk hki ?_ hno
        by_cases hjk : j = k
        · subst hjk; exact hjun
        · rw [getD_set_ne true hjk] at hun; exact hun
      have hn' : ∀ k ∈ W, (listed.setIfInBounds j true).getD k false = false := fun k hk => by
        rw [getD_set_ne false (fun e : j = k => hnw (e ▸ hk))]
        exact hn k hk
      refine wpOp_mono (fun a' w' h3 => ⟨h3.2.1, ih (listed.setIfInBounds j true) a' w' hfree' (ready_mono hr (Ne.symm hji)) hn' h3.1 h3.2.1 ?_⟩) h2
      rw [Array.setIfInBounds_comm _ _ hji]
      exact h3.2.2

/-- Number i may be taken first: it yields v in every world that meets S, and nothing late comes up before it. -/
theorem take {i : Nat} {oi : Oper} {v : Value} {fuel : Nat} {listed : Array Bool} {a : Act} {w : World} (hi : ops[i]? = some oi)
    (hs : Region.noSelect ops = true) (hf : Region.free md ops listed i = true) (hr : (Region.ready md ops listed).contains i = true) (hl : lateOk md ops late listed i = true)
    (hQ : ∀ c a w, Q (.panic c) (a.put oi.dst v) w → Q (.panic c) a w) (hy : YieldsIf P ops S oi v a) (hS : S w)
    (h : wpAnyL P md ops Q S late fuel (listed.setIfInBounds i true) (a.put oi.dst v) w) : wpAnyL P md ops Q S late (fuel + 1) listed a w := by
  unfold lateOk at hl
  simp only [Bool.and_eq_true] at hl
  exact first hi (Region.noSelect_spec hs) hQ hl.1.1 (fun j hj => List.contains_iff_mem.1 (List.all_eq_true.1 hl.1.2 j hj)) fuel listed a w (Region.free_spec hi hf) (by simpa using hr)
    (fun j hj => by have := List.all_eq_true.1 hl.2 j hj; simpa using this) hy hS h
/-- One that is not late comes up alone. -/
theorem early {k : Nat} {o : Oper} {fuel : Nat} {listed : Array Bool} {a : Act} {w : World} (hr : Region.ready md ops listed = [k]) (hl : late.contains k = false) (ho : ops[k]? = some o)
    (h : ∀ K' : Act → World → Prop, Shut (∀ a w, S w → (S w → wpAnyL P md ops Q S late fuel (listed.setIfInBounds k true) a w) → K' a w) → if Region.wanted o (yielded ops a.tmps) = true then Oper.wp P o a w K' Q else K' (a.put o.dst undef) w) :
    wpAnyL P md ops Q S late (fuel + 1) listed a w := by
  refine ⟨fun h0 => (by rw [hr] at h0; cases h0), fun j hj => ?_⟩
  rw [hr, List.mem_singleton] at hj
  subst hj
  simp only [hl, Bool.false_eq_true, if_false]
  exact wpOp_step ho fun K' hK => h K' fun a w hS hW => hK a w ⟨hS, hW hS⟩
/-- A late one comes up alone: from here on nothing is asked. -/
theorem last {k : Nat} {o : Oper} {fuel : Nat} {listed : Array Bool} {a : Act} {w : World} (hr : Region.ready md ops listed = [k]) (hl : late.contains k = true) (ho : ops[k]? = some o)
    (h : ∀ K' : Act → World → Prop, Shut (∀ a w, True → (True → wpAnyH P md ops Q (fun _ => True) fuel (listed.setIfInBounds k true) a w) → K' a w) → if Region.wanted o (yielded ops a.tmps) = true then Oper.wp P o a w K' Q else K' (a.put o.dst undef) w) :
    wpAnyL P md ops Q S late (fuel + 1) listed a w := by
  refine ⟨fun h0 => (by rw [hr] at h0; cases h0), fun j hj => ?_⟩
  rw [hr, List.mem_singleton] at hj
  subst hj
  simp only [hl, if_true]
  exact wpOp_step ho fun K' hK => h K' fun a w _ hW => hK a w (hW trivial)
/-- The beginning. -/
theorem drew {id : Nat} {a : Act} {w : World} (late : List Nat) (hm : P.follows .mixedOrders = true) (hS : S w.drew)
    (h : S w.drew → wpAnyL P .any ops Q S late ops.size (Array.replicate ops.size false) a w.drew) : (Code.region id ops true).wp P Q a w :=
  wp_region_any hm (wpAny_of_late _ _ _ _ (h hS))
end
end Go.Proofs.YtimbbfneaaglbaaGreat.Late
