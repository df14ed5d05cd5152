/-
  Rows of heads: slices.Insert whatever the room, slices.Delete (stage 13, the landed code). By an AI agent.
  Heads as values; the search for a head by its id (stage 13, the landed code). By an AI agent.
  The search for the least id that is free; a head by its id in a pool (stage 13, the landed code). By an AI agent.
  The landed pool's count, cells and start (stage 13). By an AI agent.
-/
import Derived.Test.YtimbbfneaaglbaaGreatGHeadsPlays35
import Derived.Lib.MinMax
import Derived.RegionTactic
import Derived.BigRegion
namespace Go.Proofs.YtimbbfneaaglbaaGreat.Heads
open Go.RowKit Go.Proofs.YtimbbfneaaglbaaGreat.Ints Go.Proofs.YtimbbfneaaglbaaGreat.Mem

theorem insH (B n i vb : Nat) (v : Value) (xs us : List Value) (w : World) (hrow : w.ownsRow B 78 5 v n xs) (hi : i ≤ n) (hn : n ≤ 1000000) (hus : us.length = 5) (h1u : ∀ u ∈ us, u.oneCell' = true) (h1x : ∀ u ∈ xs, u.oneCell' = true)
    (hvb : w.heap[vb]? = some (.cells us.toArray 78 (0, 0))) (hne : v.ownBlock ≠ some vb) (hB : B ≤ w.heap.size) :
    Calls Tryz.prog 70 #[v, .int .i64 (i : Nat), .slice (some ⟨vb, 0, none⟩) 1 1] w (GotIns B n i v xs us w) := by
  have q63 : maxLen = 9223372036854775807 := rfl
  by_cases hin : i = n
  · subst hin
    exact ins_end B v i vb xs us w hrow hn hus h1u hvb hB
  have hxl := hrow.1
  rcases hrow.2 with ⟨-, h0⟩ | ⟨g, c, cur, rfl, hBg, hg, hnc, hcm, hcs, htk⟩
  · omega
  have hvg : vb ≠ g := fun e => hne (by rw [e]; rfl)
  have e5 : 5 * i = i * 5 := Nat.mul_comm _ _
  by_cases hroom : n + 1 ≤ c
  · have hov : ∀ o lb cb, (callFunc 92 #[.slice (some ⟨vb, 0, none⟩) 1 1, .slice (some ⟨g, o, none⟩) lb cb]).run Tryz.prog w = .ok (.value (.bool false)) w :=
      fun o lb cb => not_over w o lb cb hvg hvb hg (by omega)
    refine (ins_room g n c i 1 vb cur xs us w hg hcs htk hxl (by omega) (by omega) hroom (by omega) (by omega) h1u h1x hvb hvg hov).mono ?_
    rintro e w' ⟨rfl, hw⟩
    have hdl : (xs.drop (i * 5)).length = (n - i) * 5 := by rw [List.length_drop, hxl]; omega
    have hxt : cur.toList.take (i * 5) = xs.take (i * 5) := by rw [← htk, List.take_take, Nat.min_eq_left (by omega)]
    have hpl : (cur.toList.take ((i + 1) * 5)).length = (i + 1) * 5 := by rw [List.length_take, Array.length_toList, hcs]; omega
    have hxtl : (xs.take (i * 5)).length = i * 5 := by rw [List.length_take, hxl]; omega
    have l1 : (cur.toList.take ((i + 1) * 5) ++ xs.drop (i * 5) ++ cur.toList.drop ((i + 1) * 5 + (xs.drop (i * 5)).length)).take (i * 5) = xs.take (i * 5) := by
      rw [List.append_assoc, List.take_append_of_le_length (by omega), List.take_take, Nat.min_eq_left (by omega), hxt]
    have l2 : (cur.toList.take ((i + 1) * 5) ++ xs.drop (i * 5) ++ cur.toList.drop ((i + 1) * 5 + (xs.drop (i * 5)).length)).drop (i * 5 + us.length) = xs.drop (i * 5) ++ cur.toList.drop ((i + 1) * 5 + (xs.drop (i * 5)).length) := by
      rw [List.append_assoc, List.drop_left' (by omega)]
    rw [l1, l2] at hw
    have hg1 := setRow_heap w.drew g cur (cur.toList.take ((i + 1) * 5) ++ xs.drop (i * 5) ++ cur.toList.drop ((i + 1) * 5 + (xs.drop (i * 5)).length)).toArray 78 (0, 0) hg
    have hg2 := setRow_heap _ g _ (xs.take (i * 5) ++ us ++ (xs.drop (i * 5) ++ cur.toList.drop ((i + 1) * 5 + (xs.drop (i * 5)).length))).toArray 78 (0, 0) hg1
    rw [← hw] at hg2
    refine ⟨_, rfl, ⟨?_, .inr ⟨g, c, _, rfl, hBg, hg2, hroom, hcm, ?_, ?_⟩⟩, ?_, .inl rfl⟩
    · rw [e5]
      simp only [List.length_append, hxtl, hdl, hus]
      omega
    · simp only [List.size_toArray, List.length_append, hxtl, hdl, hus, List.length_drop, Array.length_toList, hcs]
      omega
    · rw [e5]
      show List.take ((n + 1) * 5) (xs.take (i * 5) ++ us ++ (xs.drop (i * 5) ++ cur.toList.drop ((i + 1) * 5 + (xs.drop (i * 5)).length))) = _
      rw [← List.append_assoc, List.take_left' (by simp only [List.length_append, hxtl, hdl, hus]; omega)]
    · rw [hw]
      exact ⟨rfl, rfl, rfl, by simp, fun b _ hb => by
        have hb : b ≠ g := fun e => hb (by rw [e]; rfl)
        rw [setRow_other _ _ _ _ hb, setRow_other _ _ _ _ hb]; rfl⟩
  · refine (ins_grow g n c i 1 vb cur xs us w hg hcs hnc htk hxl (by omega) (by omega) (by omega) (by omega) (by omega) h1u h1x hvb).mono ?_
    rintro e w' ⟨q, cur2, R, rfl, hq1, hq2, hs2, hl2, hg2, hgr⟩
    have hdl : (xs.drop (i * 5)).length = (n - i) * 5 := by rw [List.length_drop, hxl]; omega
    have hxtl : (xs.take (i * 5)).length = i * 5 := by rw [List.length_take, hxl]; omega
    refine ⟨_, rfl, ⟨?_, .inr ⟨w.heap.size, q, cur2, rfl, hB, hg2, hq1, hq2, hs2, ?_⟩⟩, ⟨hgr.os, hgr.tape, hgr.output, hgr.size, fun b hb _ => hgr.block b hb (by simp)⟩, .inr rfl⟩
    · rw [e5]
      simp only [List.length_append, hxtl, hdl, hus]
      omega
    · rw [e5, hl2, List.take_left' (by simp only [List.length_append, hxtl, hdl, hus]; omega)]

section
variable {P : Program}
theorem run_clear_big (w : World) (t e ty : TypeId) (i : TypeInfo) (z : Value) (ht : P.underlying t = some (.slice e)) (hi : P.info? e = some i) (hz : i.zero = some z) (h1 : ∀ u ∈ z.cells.toList, u.oneCell' = true) (g o n c : Nat) (hn : 0 < n) (cur : Array Value) (T : TypeId) (hg : w.heap[g]? = some (.cells cur T (0, 0)))
    (hfit : o + n * z.cells.size ≤ cur.size) :
    (Builtin.clear_ #[t] ty #[.slice (some ⟨g, o, none⟩) n c]).run P w = .ok (.tuple #[]) (w.setRow g (cur.toList.take o ++ (Builtin.zeroCells z.cells n).toList ++ cur.toList.drop (o + n * z.cells.size)).toArray) := by
  have hlen : (Builtin.zeroCells z.cells n).toList.length = n * z.cells.size := by rw [Array.length_toList, size_zeroCells]
  have hst := run_storeCells_at P g o T (Builtin.zeroCells z.cells n).toList 0 cur w hg (by rw [hlen]; simpa using hfit) (fun u hu => by
    obtain ⟨j, hj, he⟩ := List.getElem_of_mem hu
    rw [hlen] at hj
    rcases Nat.eq_zero_or_pos z.cells.size with h0 | h0
    · rw [h0] at hj; omega
    · have hm := Nat.mod_lt j h0
      simp [Builtin.zeroCells] at he
      rw [getElem!_pos z.cells (j % z.cells.size) hm] at he
      rw [← he]
      exact h1 _ (by simp))
  simp only [Nat.add_zero, hlen] at hst
  obtain ⟨m, rfl⟩ : ∃ m, n = m + 1 := ⟨n - 1, by omega⟩
  simp [Builtin.clear_, run_underlying ht, zeroValue, typeInfo, hi, hz, hst]
theorem step_app_run {ops : Array Oper} {o : Oper} {a : Act} {w : World} {K : Act → World → Prop} {Q : Exit → Act → World → Prop} {E : Prop}
    (hg : o.guard = none) (s x : Operand) (t tn : TypeId) (hop : o.op = Op.call { callee := Callee.builtin Builtin.append, args := #[s, x], argTypes := #[t, tn] })
    (v u : Value) (hs : a.eval s = v) (hx : a.eval x = u) {v' : Value} {w' : World} (hr : (Builtin.append_ #[t, tn] o.type #[v, u]).run P w = .ok v' w') (hK : K (a.put o.dst v') w') :
    if Region.wanted o (yielded ops a.tmps) = true then Oper.wp P o a w K Q else E := by
  have hw : Region.wanted o (yielded ops a.tmps) = true := by simp [Region.wanted, hg]
  rw [if_pos hw]
  exact Lib.wp_append_run w s x t tn hop v u hs hx v' w' hr hK
end
set_option maxHeartbeats 8000000 in
set_option maxRecDepth 100000 in
theorem del_row (g n c i j : Nat) (cur : Array Value) (xs : List Value) (w : World) (hg : w.heap[g]? = some (.cells cur 78 (0, 0))) (hcs : cur.size = c * 5) (hnc : n ≤ c) (htk : cur.toList.take (n * 5) = xs) (hxl : xs.length = n * 5)
    (hij : i < j) (hjn : j ≤ n) (h1x : ∀ u ∈ xs, u.oneCell' = true) :
    Calls Tryz.prog 41 #[.slice (some ⟨g, 0, none⟩) n c, .int .i64 (i : Nat), .int .i64 (j : Nat)] w fun e w' =>
      e = .returned (.slice (some ⟨g, 0, none⟩) (i + (n - j)) c) ∧ ∃ cur' : Array Value, w'.heap[g]? = some (.cells cur' 78 (0, 0)) ∧ cur'.size = c * 5 ∧ cur'.toList.take ((i + (n - j)) * 5) = xs.take (i * 5) ++ xs.drop (j * 5) ∧ w.grownBy w' (some g) := by
  obtain ⟨i0, hi0, hz0, hzs, hzb⟩ := info_parts infoHd
  have hdl : (xs.drop (j * 5)).length = (n - j) * 5 := by rw [List.length_drop, hxl]; omega
  have hxtl : (xs.take (i * 5)).length = i * 5 := by rw [List.length_take, hxl]; omega
  have hxt : cur.toList.take (i * 5) = xs.take (i * 5) := by rw [← htk, List.take_take, Nat.min_eq_left (by omega)]
  have hxcell : ∀ j v, xs[j]? = some v → w.cell? ⟨g, j, none⟩ = some v := fun j v hj => by
    rw [← htk, List.getElem?_take] at hj
    split at hj
    · simp [World.cell?, hg, ← Array.getElem?_toList, hj]
    · cases hj
  obtain ⟨A, hA, hsrc⟩ : ∃ A : Addr, (if c = j then some (⟨g, 0, none⟩ : Addr) else some ⟨g, j * 5, none⟩) = some A ∧ (∀ t u, (xs.drop (j * 5))[t]? = some u → w.drew.cell? (A.add t) = some u) := by
    by_cases h : c = j
    · refine ⟨⟨g, 0, none⟩, by simp [h], fun t u hu => ?_⟩
      have h0 : (xs.drop (j * 5)).length = 0 := by rw [hdl]; omega
      rw [List.length_eq_zero_iff.1 h0] at hu
      simp at hu
    · refine ⟨⟨g, j * 5, none⟩, by simp [h], fun t u hu => ?_⟩
      rw [List.getElem?_drop] at hu
      rw [Addr.add_lit]
      exact hxcell (j * 5 + t) u hu
  obtain ⟨c1, hc1⟩ : ∃ c1 : List Value, c1 = xs.take (i * 5) ++ xs.drop (j * 5) ++ cur.toList.drop (i * 5 + (n - j) * 5) := ⟨_, rfl⟩
  have hc1l : c1.length = c * 5 := by rw [hc1]; simp only [List.length_append, hxtl, hdl, List.length_drop, Array.length_toList, hcs]; omega
  have hrun : ∀ ty, (Builtin.append_ #[73, 73] ty #[.slice (some ⟨g, 0, none⟩) i c, .slice (some A) (n - j) (c - j)]).run Tryz.prog w.drew = .ok (.slice (some ⟨g, 0, none⟩) (i + (n - j)) c) (w.drew.setRow g c1.toArray) := fun ty => by
    rw [run_append_room (P := Tryz.prog) w.drew 73 ty 78 i0 Tryz.underlying73 hi0 g i c cur hg A (n - j) (c - j) (xs.drop (j * 5)) (by rw [hdl, hzs]) hsrc (fun u hu => h1x u (List.mem_of_mem_drop hu)) (by omega) (by rw [hdl, hzs, hcs]; omega), hzs, hxt, hdl, hc1]
  obtain ⟨W1, hW1⟩ : ∃ W1, W1 = w.drew.setRow g c1.toArray := ⟨_, rfl⟩
  have hg1 : W1.heap[g]? = some (.cells c1.toArray 78 (0, 0)) := by rw [hW1]; exact setRow_heap w.drew g _ _ _ _ hg
  rw [← hW1] at hrun
  obtain ⟨Z, hZ⟩ : ∃ Z : List Value, (Builtin.zeroCells (Value.agg #[.int .i64 0, .int .i64 0, .int .i64 0, .int .u64 0, .int .i64 0]).cells (n - (i + (n - j)))).toList = Z := ⟨_, rfl⟩
  have hZl : Z.length = (n - (i + (n - j))) * 5 := by rw [← hZ, Array.length_toList, size_zeroCells, zero_hd]; rfl
  have hcl : ∀ ty, (Builtin.clear_ #[73] ty #[.slice (some ⟨g, (i + (n - j)) * 5, none⟩) (n - (i + (n - j))) (c - (i + (n - j)))]).run Tryz.prog W1 = .ok (.tuple #[]) (W1.setRow g (c1.take ((i + (n - j)) * 5) ++ Z ++ c1.drop ((i + (n - j)) * 5 + (n - (i + (n - j))) * 5)).toArray) := fun ty => by
    rw [run_clear_big (P := Tryz.prog) W1 73 78 ty i0 _ Tryz.underlying73 hi0 hz0 (by rw [zero_hd]; simp [Value.oneCell']) g _ _ _ (by omega) c1.toArray 78 hg1 (by rw [zero_hd]; simp only [hc1l, Array.size]; simp; omega), hZ, zero_hd]
    rfl
  have hlt1 : ((i + (n - j)) : Nat) < n := by omega
  have HEND := Lib.hid (show ∀ w', w' = W1.setRow g (c1.take ((i + (n - j)) * 5) ++ Z ++ c1.drop ((i + (n - j)) * 5 + (n - (i + (n - j))) * 5)).toArray → ∃ cur' : Array Value, w'.heap[g]? = some (.cells cur' 78 (0, 0)) ∧ cur'.size = c * 5 ∧ cur'.toList.take ((i + (n - j)) * 5) = xs.take (i * 5) ++ xs.drop (j * 5) ∧ w.grownBy w' (some g) from by
    rintro w' rfl
    have ht : c1.take ((i + (n - j)) * 5) = xs.take (i * 5) ++ xs.drop (j * 5) := by
      rw [hc1, List.take_left' (by simp only [List.length_append, hxtl, hdl]; omega)]
    refine ⟨_, setRow_heap W1 g _ _ _ _ hg1, ?_, ?_, ?_⟩
    · simp only [List.size_toArray, List.length_append, List.length_take, List.length_drop, hc1l, hZl]
      omega
    · rw [ht]
      show List.take _ (xs.take (i * 5) ++ xs.drop (j * 5) ++ Z ++ _) = _
      rw [List.append_assoc (xs.take (i * 5) ++ xs.drop (j * 5)), List.take_left' (by simp only [List.length_append, hxtl, hdl]; omega)]
    · exact ⟨by rw [setRow_os, hW1]; rfl, by rw [setRow_tape, hW1]; rfl, by rw [setRow_output, hW1]; rfl, by rw [setRow_size, hW1]; simp, fun b _ hb => by
        have hb : b ≠ g := fun e => hb (by rw [e])
        rw [setRow_other _ _ _ _ hb, hW1, setRow_other _ _ _ _ hb]; rfl⟩)
  have hz2 : ¬ ((i : Int) = (j : Int)) := by omega
  have hic : i ≤ c := by omega
  have hjc : j ≤ c := by omega
  have hij' : i ≤ j := by omega
  have hb4 : ¬ (c = i + (n - j)) := by omega
  clear hW1 hg1 hc1 hc1l hZ hZl hsrc hxcell hxt hxtl hdl hg htk hxl hcs h1x hi0 hz0 hzs hzb
  go_enter Tryz.func41, Tryz.ntmps41
  go_wp2_with fail
  go_region_law (refine step_app_run rfl (.tmp 22) (.tmp 25) 73 73 rfl (.slice (some ⟨g, 0, none⟩) i c) (.slice (some A) (n - j) (c - j)) (by simp [Act.eval, Act.put]) (by simp [Act.eval, Act.put]) (hrun _) ?_)
  go_wp2
  go_ret
  exact ⟨rfl, HEND.out _ (by rw [List.append_assoc])⟩
end Go.Proofs.YtimbbfneaaglbaaGreat.Heads

namespace Go.Proofs.YtimbbfneaaglbaaGreat.Heads
open Go.RowKit Go.Proofs.YtimbbfneaaglbaaGreat.Ints Go.Proofs.YtimbbfneaaglbaaGreat.Mem

/-- A head as it is stored. -/
structure Hd where
  id : Int
  at_ : Int
  ix : Int
  tm : Int
  ids : Int
def cellsHd (h : Hd) : List Value := [.int .i64 h.id, .int .i64 h.at_, .int .i64 h.ix, .int .u64 h.tm, .int .i64 h.ids]
def rowHd (l : List Hd) : List Value := l.flatMap cellsHd
theorem rowHd_len (l : List Hd) : (rowHd l).length = l.length * 5 := by
  induction l with
  | nil => rfl
  | cons t l ih =>
    simp only [rowHd, List.flatMap_cons, List.length_append, List.length_cons] at ih ⊢
    rw [ih]
    show 5 + l.length * 5 = (l.length + 1) * 5
    omega
theorem rowHd_append (l m : List Hd) : rowHd (l ++ m) = rowHd l ++ rowHd m := List.flatMap_append
theorem rowHd_cons (h : Hd) (l : List Hd) : rowHd (h :: l) = cellsHd h ++ rowHd l := List.flatMap_cons
theorem rowHd_at : ∀ (l : List Hd) (j : Nat) (t : Hd), l[j]? = some t → ∀ f, f < 5 → (rowHd l)[j * 5 + f]? = (cellsHd t)[f]?
  | [], j, t, h, _, _ => by simp at h
  | x :: l, 0, t, h, f, hf => by
    simp only [List.getElem?_cons_zero, Option.some.injEq] at h
    subst h
    show (cellsHd x ++ rowHd l)[0 * 5 + f]? = _
    rw [Nat.zero_mul, Nat.zero_add, List.getElem?_append_left (by exact hf)]
  | x :: l, j + 1, t, h, f, hf => by
    have ih := rowHd_at l j t (by simpa using h) f hf
    show (cellsHd x ++ rowHd l)[(j + 1) * 5 + f]? = _
    rw [List.getElem?_append_right (by show 5 ≤ _; omega), ← ih]
    congr 1
    show (j + 1) * 5 + f - 5 = _
    omega
theorem cellsHd_one (t : Hd) : ∀ u ∈ cellsHd t, u.oneCell' = true := by
  intro u hu
  simp only [cellsHd, List.mem_cons, List.not_mem_nil, or_false] at hu
  rcases hu with rfl | rfl | rfl | rfl | rfl <;> rfl
theorem rowHd_one (l : List Hd) : ∀ u ∈ rowHd l, u.oneCell' = true := by
  intro u hu
  obtain ⟨s, -, hs⟩ := List.mem_flatMap.1 hu
  exact cellsHd_one s u hs
/-- The five cells of a head. -/
theorem row_cell {w : World} {B g n c : Nat} {l : List Hd} (h : w.ownsRow B 78 5 (.slice (some ⟨g, 0, none⟩) n c) n (rowHd l)) {j : Nat} {x : Hd} (hx : l[j]? = some x) :
    w.cell? ⟨g, j * 5, none⟩ = some (.int .i64 x.id) ∧ w.cell? ⟨g, j * 5 + 1, none⟩ = some (.int .i64 x.at_) ∧ w.cell? ⟨g, j * 5 + 2, none⟩ = some (.int .i64 x.ix) ∧ w.cell? ⟨g, j * 5 + 3, none⟩ = some (.int .u64 x.tm) ∧ w.cell? ⟨g, j * 5 + 4, none⟩ = some (.int .i64 x.ids) := by
  have hc : ∀ f u, f < 5 → (cellsHd x)[f]? = some u → w.cell? ⟨g, j * 5 + f, none⟩ = some u := fun f u hf hu => by
    have := h.cells (g := g) rfl (j * 5 + f) u (by rw [rowHd_at l j x hx f hf, hu])
    rwa [Addr.add_lit, Nat.zero_add] at this
  exact ⟨hc 0 _ (by omega) rfl, hc 1 _ (by omega) rfl, hc 2 _ (by omega) rfl, hc 3 _ (by omega) rfl, hc 4 _ (by omega) rfl⟩

/-- cmp.Compare. -/
def cmp3 (x y : Int) : Int := if x < y then -1 else if y < x then 1 else 0
theorem cmpC (x y : Int) (w : World) : Calls Tryz.prog 73 #[.int .i64 x, .int .i64 y] w fun e w' => e = .returned (.int .i64 (cmp3 x y)) ∧ w' = w := by
  unfold cmp3
  rcases Int.lt_trichotomy x y with h | h | h
  · rw [if_pos h]
    go_enter Tryz.func73, Tryz.ntmps73
    go_wp2
    all_goals (go_ret; exact ⟨rfl, rfl⟩)
  · subst h
    rw [if_neg (Int.lt_irrefl _), if_neg (Int.lt_irrefl _)]
    have h0 : ¬ (x < x) := Int.lt_irrefl _
    go_enter Tryz.func73, Tryz.ntmps73
    go_wp2
    all_goals (go_ret; exact ⟨rfl, rfl⟩)
  · rw [if_neg (by omega), if_pos h]
    have h0 : ¬ (x < y) := by omega
    go_enter Tryz.func73, Tryz.ntmps73
    go_wp2
    all_goals (go_ret; exact ⟨rfl, rfl⟩)
set_option maxHeartbeats 4000000 in
theorem findC (h : Hd) (id : Int) (w : World) : Calls Tryz.prog 72 #[.agg #[.int .i64 h.id, .int .i64 h.at_, .int .i64 h.ix, .int .u64 h.tm, .int .i64 h.ids], .int .i64 id] w fun e w' => e = .returned (.int .i64 (cmp3 h.id id)) ∧ Below w.heap.size w w' := by
  have HC := Lib.hid (fun W => cmpC h.id id W)
  go_enter Tryz.func72, Tryz.ntmps72
  go_wp2_with (go_at_call 73; refine (HC.out _).mono ?_; rintro e w1 ⟨rfl, rfl⟩)
  go_ret
  exact ⟨rfl, (Below.refl _ _).alloc (Nat.le_refl _) _⟩

/-- A slice that reads as a row of heads. -/
def RdH (w : World) (A : Option Addr) (l : List Hd) : Prop := 0 < l.length → ∃ g, A = some ⟨g, 0, none⟩ ∧ g < w.heap.size ∧ ∀ (j : Nat) (x : Hd), l[j]? = some x →
    w.cell? ⟨g, j * 5, none⟩ = some (.int .i64 x.id) ∧ w.cell? ⟨g, j * 5 + 1, none⟩ = some (.int .i64 x.at_) ∧ w.cell? ⟨g, j * 5 + 2, none⟩ = some (.int .i64 x.ix) ∧ w.cell? ⟨g, j * 5 + 3, none⟩ = some (.int .u64 x.tm) ∧ w.cell? ⟨g, j * 5 + 4, none⟩ = some (.int .i64 x.ids)
theorem RdH.below {w w' : World} {A : Option Addr} {l : List Hd} (h : RdH w A l) (hb : Below w.heap.size w w') : RdH w' A l := fun h0 => by
  obtain ⟨g, h1, h2, h3⟩ := h h0
  have hk : ∀ j, w'.cell? ⟨g, j, none⟩ = w.cell? ⟨g, j, none⟩ := fun j => World.cell?_of_block (a := ⟨g, j, none⟩) (hb.block g h2)
  exact ⟨g, h1, Nat.lt_of_lt_of_le h2 hb.size, fun j x hx => by simp only [hk]; exact h3 j x hx⟩
theorem RdH.own {w : World} {B n c : Nat} {A : Option Addr} {l : List Hd} (h : w.ownsRow B 78 5 (.slice A n c) n (rowHd l)) (hl : l.length = n) : RdH w A l := fun h0 => by
  rcases h.2 with ⟨-, e⟩ | ⟨g, c', cur, e, -, hg, -⟩
  · omega
  · injection e with e1 e2 e3
    subst e1
    exact ⟨g, rfl, (Array.getElem?_eq_some_iff.1 hg).1, fun j x hx => row_cell h hx⟩
set_option maxHeartbeats 8000000 in
set_option maxRecDepth 100000 in
theorem searchC (A : Option Addr) (n c : Nat) (l : List Hd) (id : Int) (w : World) (hl : l.length = n) (hn : n ≤ 1000000) (_hc : n ≤ c) (hr : RdH w A l) (hs : l.Pairwise (fun a b => a.id < b.id)) :
    Calls Tryz.prog 71 #[.slice A n c, .int .i64 id, .func (.func 72) #[] #[]] w fun e w' => ∃ p b, e = .returned (.tuple #[.int .i64 (p : Nat), .bool b]) ∧
      (∀ (j : Nat) (h : Hd), j < p → l[j]? = some h → h.id < id) ∧ (∀ (j : Nat) (h : Hd), p ≤ j → l[j]? = some h → id ≤ h.id) ∧ (b = true ↔ ∃ h, l[p]? = some h ∧ h.id = id) ∧ Below w.heap.size w w' := by
  have HF := Lib.hid (fun x W => findC x id W)
  have HR := Lib.hid hr
  have HB0 := Lib.hid (Below.refl w.heap.size w)
  clear hr
  go_enter Tryz.func71, Tryz.ntmps71
  go_wp2_with fail
  go_loopw [9, 10] (fun vi vj wr => ∃ i j : Nat, vi = .int .i64 (i : Nat) ∧ vj = .int .i64 (j : Nat) ∧ i ≤ j ∧ j ≤ n ∧ Hid (∀ (m : Nat) (h : Hd), m < i → l[m]? = some h → h.id < id) ∧ Hid (∀ (m : Nat) (h : Hd), j ≤ m → l[m]? = some h → id ≤ h.id) ∧ Below w.heap.size w wr) (fun vi vj _ => (intOf vj).toNat - (intOf vi).toNat)
  case atStart => exact ⟨0, n, rfl, rfl, Nat.zero_le _, Nat.le_refl _, Lib.hid (fun m h hm => absurd hm (Nat.not_lt_zero _)), Lib.hid (fun m h hm hh => by rw [List.getElem?_eq_none (by omega)] at hh; cases hh), HB0.out⟩
  case round =>
    obtain ⟨i, j, rfl, rfl, hij, hjn, hlo, hhi, hB⟩ := hrel
    have HB := Lib.hid hB
    by_cases hlt : i < j
    · obtain ⟨q, hq⟩ : ∃ q, (i + j) / 2 = q := ⟨_, rfl⟩
      have hh : ((i : Int) + (j : Int)) / 2 = (q : Int) := by omega
      have hqi : i ≤ q := by omega
      have hqj : q < j := by omega
      obtain ⟨x, hx⟩ : ∃ x, l[q]? = some x := ⟨_, List.getElem?_eq_getElem (by omega)⟩
      obtain ⟨g, rfl, -, hcell⟩ := (HR.out.below hB) (by omega)
      obtain ⟨y0, y1, y2, y3, y4⟩ := hcell q x hx
      have HQ := Lib.hid (And.intro hq hx)
      clear hcell hB hq hx
      by_cases hlx : x.id < id
      · have hcmp : cmp3 x.id id = -1 := by unfold cmp3; rw [if_pos hlx]
        go_wp2_with (go_at_call 72; refine (HF.out x _).mono ?_; rintro e w1 ⟨rfl, hB1⟩; rw [hcmp])
        have HB2 := Lib.hid (HB.out.trans (hB1.mono HB.out.size))
        go_roundw
        case rel => exact ⟨q + 1, j, by simp, rfl, by omega, hjn, Lib.hid (fun m h hm hh => by
          rcases Nat.lt_or_ge m q with h1 | h1
          · have h2 := List.pairwise_iff_getElem.1 hs m q (by omega) (by omega) h1
            rw [List.getElem?_eq_getElem (by omega)] at hh
            have h3 := HQ.out.2
            rw [List.getElem?_eq_getElem (by omega)] at h3
            injection hh with hh
            injection h3 with h3
            rw [hh, h3] at h2
            omega
          · rw [show m = q by omega, HQ.out.2] at hh
            injection hh with hh
            rw [← hh]; exact hlx), hhi, HB2.out⟩
        case measure => (show j - (q + 1) < j - i; omega)
      · have hcmp : cmp3 x.id id = 0 ∨ cmp3 x.id id = 1 := by unfold cmp3; rw [if_neg hlx]; split; exact .inr rfl; exact .inl rfl
        have hcmp2 : ¬ (cmp3 x.id id < 0) := by omega
        go_wp2_with (go_at_call 72; refine (HF.out x _).mono ?_; rintro e w1 ⟨rfl, hB1⟩)
        have HB2 := Lib.hid (HB.out.trans (hB1.mono HB.out.size))
        go_roundw
        case rel => exact ⟨i, q, rfl, rfl, hqi, by omega, hlo, Lib.hid (fun m h hm hh => by
          rcases Nat.lt_or_ge q m with h1 | h1
          · have hml : m < l.length := (List.getElem?_eq_some_iff.1 hh).1
            have h2 := List.pairwise_iff_getElem.1 hs q m (by omega) hml h1
            rw [List.getElem?_eq_getElem hml] at hh
            have h3 := HQ.out.2
            rw [List.getElem?_eq_getElem (by omega)] at h3
            injection hh with hh
            injection h3 with h3
            rw [hh, h3] at h2
            omega
          · rw [show m = q by omega, HQ.out.2] at hh
            injection hh with hh
            rw [← hh]; omega), HB2.out⟩
        case measure => (show q - i < j - i; omega)
    · obtain rfl : i = j := by omega
      clear hB
      by_cases hin : i < n
      · obtain ⟨x, hx⟩ : ∃ x, l[i]? = some x := ⟨_, List.getElem?_eq_getElem (by omega)⟩
        obtain ⟨g, rfl, -, hcell⟩ := (HR.out.below HB.out) (by omega)
        obtain ⟨y0, y1, y2, y3, y4⟩ := hcell i x hx
        have hge := hhi.out i x (Nat.le_refl _) hx
        have HX := Lib.hid hx
        clear hcell hx
        by_cases he : x.id = id
        · have hcmp : cmp3 x.id id = 0 := by unfold cmp3; rw [if_neg (by omega), if_neg (by omega)]
          have HEQ := Lib.hid he
          clear he
          go_wp2_with (go_at_call 72; refine (HF.out x _).mono ?_; rintro e w1 ⟨rfl, hB1⟩; rw [hcmp])
          refine bodyPost_ret (v := .tuple #[.int .i64 (i : Nat), .bool true]) (by simp [results, Tryz.results71, go_sem]) rfl ?_
          exact ⟨i, true, rfl, hlo.out, hhi.out, ⟨fun _ => ⟨x, HX.out, HEQ.out⟩, fun _ => rfl⟩, HB.out.trans (hB1.mono HB.out.size)⟩
        · have hcmp : cmp3 x.id id = 1 := by unfold cmp3; rw [if_neg (by omega), if_pos (by omega)]
          go_wp2_with (go_at_call 72; refine (HF.out x _).mono ?_; rintro e w1 ⟨rfl, hB1⟩; rw [hcmp])
          refine bodyPost_ret (v := .tuple #[.int .i64 (i : Nat), .bool false]) (by simp [results, Tryz.results71, go_sem]) rfl ?_
          exact ⟨i, false, rfl, hlo.out, hhi.out, ⟨fun e => (by cases e), fun ⟨h, h1, h2⟩ => absurd h2 (by rw [HX.out] at h1; injection h1 with h1; rw [← h1]; exact he)⟩, HB.out.trans (hB1.mono HB.out.size)⟩
      · go_wp2_with fail
        refine bodyPost_ret (v := .tuple #[.int .i64 (i : Nat), .bool false]) (by simp [results, Tryz.results71, go_sem]) rfl ?_
        exact ⟨i, false, rfl, hlo.out, hhi.out, ⟨fun e => (by cases e), fun ⟨h, h1, h2⟩ => by rw [List.getElem?_eq_none (by omega)] at h1; cases h1⟩, HB.out⟩
end Go.Proofs.YtimbbfneaaglbaaGreat.Heads

namespace Go.Proofs.YtimbbfneaaglbaaGreat.Heads
open Go.RowKit Go.Proofs.YtimbbfneaaglbaaGreat.Ints Go.Proofs.YtimbbfneaaglbaaGreat.Mem

set_option maxHeartbeats 8000000 in
set_option maxRecDepth 100000 in
theorem freeC (g bq : Nat) (A : Option Addr) (n c : Nat) (l : List Hd) (u0 u1 u2 u3 u5 u6 : Value) (w : World) (hb : Blk w g [u0, u1, u2, u3, .slice A n c, u5, u6]) (hq : w.cell? ⟨bq, 0, none⟩ = some (.pointer (some ⟨g, 0, none⟩)))
    (hl : l.length = n) (_hc : n ≤ c) (hr : RdH w A l) (j : Nat) (x : Hd) (hx : l[j]? = some x) :
    Calls Tryz.prog 91 #[.int .i64 (j : Nat), .pointer (some ⟨bq, 0, none⟩)] w fun e w' => e = .returned (.bool (decide ((j : Int) < x.id))) ∧ w' = w := by
  have hj : j < n := by rw [← hl]; exact (List.getElem?_eq_some_iff.1 hx).1
  obtain ⟨q, rfl, -, hcell⟩ := hr (by omega)
  obtain ⟨y0, -, -, -, -⟩ := hcell j x hx
  have b4 := hb.cell 4 rfl
  clear hcell hb hx
  go_enter Tryz.func91, Tryz.ntmps91
  go_wp2
  go_ret
  exact ⟨rfl, rfl⟩

set_option maxHeartbeats 8000000 in
set_option maxRecDepth 100000 in
theorem searchF (g bq : Nat) (A : Option Addr) (n c : Nat) (l : List Hd) (u0 u1 u2 u3 u5 u6 : Value) (w : World) (hb : Blk w g [u0, u1, u2, u3, .slice A n c, u5, u6]) (hq : w.cell? ⟨bq, 0, none⟩ = some (.pointer (some ⟨g, 0, none⟩)))
    (hl : l.length = n) (hn : n ≤ 1000000) (hc : n ≤ c) (hr : RdH w A l) (hm : ∀ (m j : Nat) (x y : Hd), m ≤ j → l[m]? = some x → l[j]? = some y → (m : Int) < x.id → (j : Int) < y.id) :
    Calls Tryz.prog 90 #[.int .i64 (n : Nat), .func (.func 91) #[] #[.pointer (some ⟨bq, 0, none⟩)]] w fun e w' => ∃ p, e = .returned (.int .i64 (p : Nat)) ∧ p ≤ n ∧
      (∀ (j : Nat) (h : Hd), j < p → l[j]? = some h → h.id ≤ (j : Int)) ∧ (∀ (j : Nat) (h : Hd), p ≤ j → l[j]? = some h → (j : Int) < h.id) ∧ w' = w := by
  have HF := Lib.hid (freeC g bq A n c l u0 u1 u2 u3 u5 u6 w hb hq hl hc hr)
  have HM := Lib.hid hm
  clear hb hq hr hm
  go_enter Tryz.func90, Tryz.ntmps90
  go_wp2_with fail
  go_loopw [5, 6] (fun vi vj wr => ∃ i j : Nat, vi = .int .i64 (i : Nat) ∧ vj = .int .i64 (j : Nat) ∧ i ≤ j ∧ j ≤ n ∧ Hid (∀ (m : Nat) (h : Hd), m < i → l[m]? = some h → h.id ≤ (m : Int)) ∧ Hid (∀ (m : Nat) (h : Hd), j ≤ m → l[m]? = some h → (m : Int) < h.id) ∧ wr = w) (fun vi vj _ => (intOf vj).toNat - (intOf vi).toNat)
  case atStart => exact ⟨0, n, rfl, rfl, Nat.zero_le _, Nat.le_refl _, Lib.hid (fun m h hm => absurd hm (Nat.not_lt_zero _)), Lib.hid (fun m h hm hh => by rw [List.getElem?_eq_none (by omega)] at hh; cases hh), rfl⟩
  case round =>
    obtain ⟨i, j, rfl, rfl, hij, hjn, hlo, hhi, rfl⟩ := hrel
    by_cases hlt : i < j
    · obtain ⟨q, hq⟩ : ∃ q, (i + j) / 2 = q := ⟨_, rfl⟩
      have hh : ((i : Int) + (j : Int)) / 2 = (q : Int) := by omega
      have hqi : i ≤ q := by omega
      have hqj : q < j := by omega
      obtain ⟨x, hx⟩ : ∃ x, l[q]? = some x := ⟨_, List.getElem?_eq_getElem (by omega)⟩
      have HQ := Lib.hid (And.intro hq hx)
      have FC := HF.out q x hx
      clear hq hx
      by_cases hlx : (q : Int) < x.id
      · rw [decide_eq_true hlx] at FC
        have HFC := Lib.hid FC
        clear FC
        go_wp2_with (go_at_call 91; refine HFC.out.mono ?_; rintro e w1 ⟨rfl, rfl⟩)
        go_roundw
        case rel => exact ⟨i, q, rfl, rfl, hqi, by omega, hlo, Lib.hid (fun m h h1 hh => HM.out q m x h h1 HQ.out.2 hh hlx), trivial⟩
        case measure => (show q - i < j - i; omega)
      · rw [decide_eq_false hlx] at FC
        have HFC := Lib.hid FC
        clear FC
        go_wp2_with (go_at_call 91; refine HFC.out.mono ?_; rintro e w1 ⟨rfl, rfl⟩)
        go_roundw
        case rel => exact ⟨q + 1, j, by simp, rfl, by omega, hjn, Lib.hid (fun m h h1 hh => by
          rcases Int.lt_or_le (m : Int) h.id with h2 | h2
          · exact absurd (HM.out m q h x (by omega) hh HQ.out.2 h2) (by omega)
          · exact h2), hhi, trivial⟩
        case measure => (show j - (q + 1) < j - i; omega)
    · obtain rfl : i = j := by omega
      go_wp2_with fail
      go_ret
      exact ⟨i, rfl, hjn, hlo.out, hhi.out, rfl⟩
set_option maxHeartbeats 8000000 in
set_option maxRecDepth 100000 in
theorem freeP_land (g : Nat) (A : Option Addr) (n c : Nat) (l : List Hd) (u0 u1 u2 u3 u5 u6 : Value) (w : World) (hb : Blk w g [u0, u1, u2, u3, .slice A n c, u5, u6])
    (hl : l.length = n) (hn : n ≤ 1000000) (hc : n ≤ c) (hr : RdH w A l) (hm : ∀ (m j : Nat) (x y : Hd), m ≤ j → l[m]? = some x → l[j]? = some y → (m : Int) < x.id → (j : Int) < y.id) :
    Calls Tryz.prog 69 #[.pointer (some ⟨g, 0, none⟩)] w fun e w' => ∃ p, e = .returned (.int .i64 (p : Nat)) ∧ p ≤ n ∧
      (∀ (j : Nat) (h : Hd), j < p → l[j]? = some h → h.id ≤ (j : Int)) ∧ (∀ (j : Nat) (h : Hd), p ≤ j → l[j]? = some h → (j : Int) < h.id) ∧ Below w.heap.size w w' := by
  have hal := (Below.refl _ w).alloc (Nat.le_refl _) (.cells #[.pointer (some ⟨g, 0, none⟩)] 42)
  have hb1 := hb.alloc (.cells #[.pointer (some ⟨g, 0, none⟩)] 42)
  have q0 := (Blk.new w #[.pointer (some ⟨g, 0, none⟩)] 42 [.pointer (some ⟨g, 0, none⟩)] rfl).cell 0 rfl
  have b4 := hb1.cell 4 rfl
  have HS := Lib.hid (searchF g w.heap.size A n c l u0 u1 u2 u3 u5 u6 _ hb1 q0 hl hn hc (hr.below hal) hm)
  have HAL := Lib.hid hal
  clear hb hb1 hr hal hm
  go_enter Tryz.func69, Tryz.ntmps69
  go_wp2_with (go_at_call 90; refine HS.out.mono ?_; rintro e w1 ⟨p, rfl, h1, h2, h3, rfl⟩)
  go_ret
  exact ⟨p, rfl, h1, h2, h3, HAL.out⟩
set_option maxHeartbeats 8000000 in
set_option maxRecDepth 100000 in
theorem find_land (g : Nat) (A : Option Addr) (n c : Nat) (l : List Hd) (id : Int) (u0 u1 u2 u3 u5 u6 : Value) (w : World) (hb : Blk w g [u0, u1, u2, u3, .slice A n c, u5, u6])
    (hl : l.length = n) (hn : n ≤ 1000000) (hc : n ≤ c) (hr : RdH w A l) (hs : l.Pairwise (fun a b => a.id < b.id)) :
    Calls Tryz.prog 38 #[.pointer (some ⟨g, 0, none⟩), .int .i64 id] w fun e w' => ∃ p b, e = .returned (.tuple #[.int .i64 (p : Nat), .bool b]) ∧
      (∀ (j : Nat) (h : Hd), j < p → l[j]? = some h → h.id < id) ∧ (∀ (j : Nat) (h : Hd), p ≤ j → l[j]? = some h → id ≤ h.id) ∧ (b = true ↔ ∃ h, l[p]? = some h ∧ h.id = id) ∧ Below w.heap.size w w' := by
  have b4 := hb.cell 4 rfl
  have HS := Lib.hid (searchC A n c l id w hl hn hc hr hs)
  clear hb hr
  go_enter Tryz.func38, Tryz.ntmps38
  go_wp2_with (go_at_call 71; refine HS.out.mono ?_; rintro e w1 ⟨p, b, rfl, h1, h2, h3, h4⟩)
  refine bodyPost_ret (v := .tuple #[.int .i64 (p : Nat), .bool b]) (by simp [results, Tryz.results38, go_sem]) rfl ?_
  exact ⟨p, b, rfl, h1, h2, h3, h4⟩
theorem find_nil (id : Int) (w : World) : Calls Tryz.prog 38 #[.pointer none, .int .i64 id] w fun e w' => e = .returned (.tuple #[.int .i64 0, .bool false]) ∧ w' = w := by
  go_enter Tryz.func38, Tryz.ntmps38
  go_wp2
  refine bodyPost_ret (v := .tuple #[.int .i64 0, .bool false]) (by simp [results, Tryz.results38, go_sem]) rfl ?_
  exact ⟨rfl, rfl⟩
end Go.Proofs.YtimbbfneaaglbaaGreat.Heads

namespace Go.Proofs.YtimbbfneaaglbaaGreat.Heads
open Go.RowKit Go.Proofs.YtimbbfneaaglbaaGreat.Ints Go.Proofs.YtimbbfneaaglbaaGreat.Mem Go.Proofs.YtimbbfneaaglbaaGreat.Src

theorem cellsC (h : Hd) (w : World) (hb : 0 ≤ h.ids ∧ h.ids ≤ 1000000) : Calls Tryz.prog 40 #[.agg #[.int .i64 h.id, .int .i64 h.at_, .int .i64 h.ix, .int .u64 h.tm, .int .i64 h.ids]] w fun e w' => e = .returned (.int .i64 (3 + h.ids)) ∧ Below w.heap.size w w' := by
  obtain ⟨h1, h2⟩ := hb
  go_enter Tryz.func40, Tryz.ntmps40
  go_wp2
  go_ret
  exact ⟨rfl, (Below.refl _ _).alloc (Nat.le_refl _) _⟩
set_option maxHeartbeats 8000000 in
set_option maxRecDepth 100000 in
theorem startC (g : Nat) (u0 u1 u3 u4 u5 u6 : Value) (first : Nat) (id : Int) (w : World) (hb : Blk w g [u0, u1, .int .i64 (first : Nat), u3, u4, u5, u6]) :
    Calls Tryz.prog 37 #[.pointer (some ⟨g, 0, none⟩), .int .i64 id] w fun e w' => e = .returned (.agg #[.int .i64 id, .int .i64 (first : Nat), .int .i64 0, .int .u64 0, .int .i64 0]) ∧ Below w.heap.size w w' := by
  have b2 := (hb.alloc (.cells #[.int .i64 0, .int .i64 0, .int .i64 0, .int .u64 0, .int .i64 0] 78)).cell 2 rfl
  clear hb
  go_enter Tryz.func37, Tryz.ntmps37
  have z := Blk.new w #[.int .i64 id, .int .i64 (first : Nat), .int .i64 0, .int .u64 0, .int .i64 0] 78 [.int .i64 id, .int .i64 (first : Nat), .int .i64 0, .int .u64 0, .int .i64 0] rfl
  have z0 := z.cell 0 rfl
  have z1 := z.cell 1 rfl
  have z2 := z.cell 2 rfl
  have z3 := z.cell 3 rfl
  have z4 := z.cell 4 rfl
  clear z
  go_wp2
  refine bodyPost_ret (v := .agg #[.int .i64 id, .int .i64 (first : Nat), .int .i64 0, .int .u64 0, .int .i64 0]) (by simp [results, Tryz.results37, go_sem, z0, z1, z2, z3, z4]) rfl ?_
  exact ⟨rfl, (Below.refl _ _).alloc (Nat.le_refl _) _⟩
set_option maxHeartbeats 8000000 in
set_option maxRecDepth 100000 in
theorem countC (g cl pk : Nat) (d : Int) (u0 u1 u2 u3 u4 : Value) (w : World) (hb : Blk w g [u0, u1, u2, u3, u4, .int .i64 (cl : Nat), .int .i64 (pk : Nat)]) (hd : 0 ≤ (cl : Int) + d ∧ (cl : Int) + d ≤ 1000000000) :
    Calls Tryz.prog 39 #[.pointer (some ⟨g, 0, none⟩), .int .i64 d] w fun e w' => e = .returned (.tuple #[]) ∧ Blk w' g [u0, u1, u2, u3, u4, .int .i64 ((cl : Int) + d), .int .i64 (max (pk : Int) ((cl : Int) + d))] ∧ w.grownBy w' (some g) := by
  obtain ⟨hd1, hd2⟩ := hd
  have b5 := hb.cell 5 rfl
  have b6 := hb.cell 6 rfl
  have f5 := hb.fz 5 rfl
  have f6 := hb.fz 6 rfl
  have hb2 := hb.set 5 (.int .i64 ((cl : Int) + d)) (by simp)
  have c5 := hb2.cell 5 rfl
  have c6 := hb2.cell 6 rfl
  have HB := Lib.hid hb2
  clear hb hb2
  go_enter Tryz.func39, Tryz.ntmps39
  go_wp2
  go_region
  all_goals go_wp2
  all_goals go_end0
  all_goals
    refine ⟨rfl, ?_, ?_⟩
    · exact (HB.out.set 6 _ (by simp)).drew
    · have h := grown_trans (grown_cell w ⟨g, 5, none⟩ (.int .i64 ((cl : Int) + d))) (grown_cell _ ⟨g, 6, none⟩ (.int .i64 (max (pk : Int) ((cl : Int) + d))))
      exact ⟨h.os, h.tape, h.output, h.size, h.block⟩
end Go.Proofs.YtimbbfneaaglbaaGreat.Heads
