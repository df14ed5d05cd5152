/-
  Rows of heads: slices.Insert at one head (stage 13, the landed code). By an AI agent.
-/
import Derived.Test.YtimbbfneaaglbaaGHeadsApart10
import Derived.Maps.AppendAt
import Derived.Shelf.Spec.SlicesInsert
import Derived.Lib.AppendZerosOnto
import Derived.Lib.Overlaps
import Derived.Laws.CopyRow
import Derived.Deep.RegionLaw
namespace Go.Proofs.Ytimbbfneaaglbaa.Heads
open Go.RowKit Go.Proofs.Ytimbbfneaaglbaa.Ints Go.Proofs.Ytimbbfneaaglbaa.Mem

theorem infoHd : (Try.prog.info? 72).map (fun i => (i.zero, i.size, i.bytes)) = some (some (.agg #[.int .i64 0, .int .i64 0, .int .i64 0, .int .u64 0, .int .i64 0]), 5, 40) := by kernel_rfl
theorem zero_hd : (Value.agg #[.int .i64 0, .int .i64 0, .int .i64 0, .int .u64 0, .int .i64 0]).cells = #[.int .i64 0, .int .i64 0, .int .i64 0, .int .u64 0, .int .i64 0] := rfl
section
variable {P : Program}
/-- 'copy' into a row, elements of some cells. -/
theorem run_copy_big (w : World) (dT sT ty elem : TypeId) (size g o dLen dCap : Nat) (a : Addr) (sLen sCap : Nat) (cur : Array Value) (t : TypeId) (cs : List Value)
    (hu : P.underlying dT = some (.slice elem)) (hs : (P.info? elem).map (·.size) = some size)
    (hg : w.heap[g]? = some (.cells cur t (0, 0))) (hn : cs.length = Nat.min sLen dLen * size)
    (hsrc : ∀ j v, cs[j]? = some v → w.cell? (a.add j) = some v) (hfit : o + cs.length ≤ cur.size) (h1 : ∀ v ∈ cs, v.oneCell' = true) :
    (Builtin.copy_ #[dT, sT] ty #[.slice (some ⟨g, o, none⟩) dLen dCap, .slice (some a) sLen sCap]).run P w =
      .ok (goInt (Nat.min sLen dLen)) (w.setRow g (cur.toList.take o ++ cs ++ cur.toList.drop (o + cs.length)).toArray) := by
  have hl := run_loadCells_list (P := P) w a cs hsrc
  have hst := run_storeCells_at P g o t cs 0 cur w hg (by simpa using hfit) h1
  cases hq : P.info? elem with
  | none => simp [hq] at hs
  | some i =>
    have hi : i.size = size := by simpa [hq] using hs
    simp [Builtin.copy_, run_underlying hu, Builtin.lenOf, Builtin.firstCells, sizeOf, typeInfo, hq, hi, ← hn, hl, hst]
end
/-- A variadic argument lies apart from the row. -/
theorem not_over (w : World) {vb g : Nat} (o lb cb : Nat) {us cur : Array Value} {tA tB : TypeId} (hne : vb ≠ g) (hv : w.heap[vb]? = some (.cells us tA (0, 0))) (hg : w.heap[g]? = some (.cells cur tB (0, 0))) (hk : cur.size ≠ 0) :
    (callFunc 66 #[.slice (some ⟨vb, 0, none⟩) 1 1, .slice (some ⟨g, o, none⟩) lb cb]).run Try.prog w = .ok (.value (.bool false)) w := by
  rw [run_callFunc_extern Try.func66 (by kernel_rfl) (by kernel_rfl) (by kernel_rfl) (e := Extern.SlicesOverlaps.overlaps #[64, 64] #[4]) (by kernel_rfl),
    Lib.run_overlaps_apart w 64 4 72 Try.underlying64 5 Try.sizeOf72 ⟨vb, 0, none⟩ ⟨g, o, none⟩ 1 1 lb cb hne tA tB us.size cur.size (by simp [World.shape?, hv]) (by simp [World.shape?, hg]) hk (by simp [World.frozen?, hv]) (by simp [World.frozen?, hv])]
  rfl
theorem take_mid {l a b : List Value} {k n : Nat} (h : l.take n = a ++ b) (hk : a.length = k) : l.take k = a := by
  have e : l = (a ++ b) ++ l.drop n := by rw [← h, List.take_append_drop]
  rw [e, List.append_assoc, List.take_left' hk]

/-- What a call that inserts one head leaves. -/
def GotIns (B n i : Nat) (v : Value) (xs us : List Value) (w : World) (e : Ending) (w' : World) : Prop :=
  ∃ v', e = .returned v' ∧ w'.ownsRow B 72 5 v' (n + 1) (xs.take (5 * i) ++ us ++ xs.drop (5 * i)) ∧ w.grownBy w' v.ownBlock ∧ (v'.ownBlock = v.ownBlock ∨ v'.ownBlock = some w.heap.size)

set_option maxHeartbeats 8000000 in
set_option maxRecDepth 100000 in
theorem ins_end (B : Nat) (v : Value) (n vb : Nat) (xs us : List Value) (w : World) (hrow : w.ownsRow B 72 5 v n xs) (hn : n ≤ 1000000) (hus : us.length = 5) (h1u : ∀ u ∈ us, u.oneCell' = true)
    (hvb : w.heap[vb]? = some (.cells us.toArray 72 (0, 0))) (hB : B ≤ w.heap.size) :
    Calls Try.prog 51 #[v, .int .i64 (n : Nat), .slice (some ⟨vb, 0, none⟩) 1 1] w (GotIns B n n v xs us w) := by
  have q63 : maxLen = 9223372036854775807 := rfl
  obtain ⟨i0, hi, hz0, hz1, hz2⟩ := info_parts infoHd
  have hxl := hrow.1
  have hcells : ∀ j u, us[j]? = some u → w.cell? ((⟨vb, 0, none⟩ : Addr).add j) = some u := fun j u hu => by
    rw [Addr.add_lit, Nat.zero_add]
    simp [World.cell?, hvb, hu]
  obtain ⟨v', w', hrun, h2, h3, -, h5⟩ := run_append_own_at (P := Try.prog) (w := w) B 64 64 72 i0 _ 5 40 Try.underlying64 hi hz0 hz1 hz2 rfl (by decide) v n xs hrow ⟨vb, 0, none⟩ 1 1 us (by omega) hcells h1u (by omega) (by omega) hB
  have HRUN := Lib.hid hrun
  have HG := Lib.hid (show GotIns B n n v xs us w (.returned v') w' from ⟨v', rfl, by
    rw [List.take_of_length_le (by omega), List.drop_of_length_le (by omega), List.append_nil]
    exact h2, h3, h5⟩)
  obtain ⟨A, c, rfl, hnc, hcm, hA, -⟩ := own_sliceN hrow
  clear hrun h2 h3 h5 hrow hcells hvb
  cases A with
  | none =>
    obtain rfl := hA rfl
    obtain rfl : n = 0 := by omega
    go_enter Try.func51, Try.ntmps51
    go_wp2_with (at_builtin; refine Lib.wpList_append_run _ rfl _ _ _ _ rfl _ _ rfl rfl _ _ HRUN.out ?_)
    go_ret
    exact HG.out
  | some a =>
    obtain ⟨ab, ao, asp⟩ := a
    go_enter Try.func51, Try.ntmps51
    go_wp2_with (at_builtin; refine Lib.wpList_append_run _ rfl _ _ _ _ rfl _ _ rfl rfl _ _ HRUN.out ?_)
    all_goals (go_ret; exact HG.out)

theorem sizeHd : (Try.prog.info? 72).map (·.size) = some 5 := by
  obtain ⟨i0, hi0, h0, h1, h2⟩ := info_parts infoHd
  rw [hi0]; simp [h1]
set_option maxHeartbeats 8000000 in
set_option maxRecDepth 100000 in
theorem ins_room (g n c i m vb : Nat) (cur : Array Value) (xs us : List Value) (w : World) (hg : w.heap[g]? = some (.cells cur 72 (0, 0))) (hcs : cur.size = c * 5) (htk : cur.toList.take (n * 5) = xs) (hxl : xs.length = n * 5)
    (hi : i < n) (hm : 0 < m) (hroom : n + m ≤ c) (hc63 : c ≤ 9223372036854775807) (hul : us.length = m * 5) (h1u : ∀ u ∈ us, u.oneCell' = true) (h1x : ∀ u ∈ xs, u.oneCell' = true) (hvb : w.heap[vb]? = some (.cells us.toArray 72 (0, 0))) (hne : vb ≠ g)
    (hov : ∀ o lb cb, (callFunc 66 #[.slice (some ⟨vb, 0, none⟩) m m, .slice (some ⟨g, o, none⟩) lb cb]).run Try.prog w = .ok (.value (.bool false)) w) :
    Calls Try.prog 51 #[.slice (some ⟨g, 0, none⟩) n c, .int .i64 (i : Nat), .slice (some ⟨vb, 0, none⟩) m m] w fun e w' =>
      e = .returned (.slice (some ⟨g, 0, none⟩) (n + m) c) ∧ w' = (w.drew.setRow g (cur.toList.take ((i + m) * 5) ++ xs.drop (i * 5) ++ cur.toList.drop ((i + m) * 5 + (xs.drop (i * 5)).length)).toArray).setRow g
        (((cur.toList.take ((i + m) * 5) ++ xs.drop (i * 5) ++ cur.toList.drop ((i + m) * 5 + (xs.drop (i * 5)).length))).take (i * 5) ++ us ++ ((cur.toList.take ((i + m) * 5) ++ xs.drop (i * 5) ++ cur.toList.drop ((i + m) * 5 + (xs.drop (i * 5)).length))).drop (i * 5 + us.length)).toArray := by
  have hz1 : ¬ ((m : Int) = 0) := by omega
  have hz2 : ¬ ((i : Int) = (n : Int)) := by omega
  have hdl : (xs.drop (i * 5)).length = (n - i) * 5 := by rw [List.length_drop, hxl]; omega
  have hxcell : ∀ j v, xs[j]? = some v → w.cell? ⟨g, j, none⟩ = some v := fun j v hj => by
    rw [← htk, List.getElem?_take] at hj
    split at hj
    · simp [World.cell?, hg, ← Array.getElem?_toList, hj]
    · cases hj
  have hucell : ∀ j v, us[j]? = some v → w.cell? ⟨vb, j, none⟩ = some v := fun j v hj => by simp [World.cell?, hvb, hj]
  have hw1 : IntKind.i64.wrap ((i : Int) + (m : Int)) = (i : Int) + (m : Int) := by rw [IntKind.wrap_i64]; omega
  have hb1 : (0 : Int) ≤ (i : Int) + (m : Int) := by omega
  have hin : i ≤ n := by omega
  have htn : ((i : Int) + (m : Int)).toNat = i + m := by omega
  have hb2 : ¬ (c = i + m) := by omega
  have hb3 : (i : Int) ≤ (n : Int) + (m : Int) := by omega
  have hb4 : ¬ (c = i) := by omega
  obtain ⟨cur1, hcur1⟩ : ∃ cur1, cur1 = (cur.toList.take ((i + m) * 5) ++ xs.drop (i * 5) ++ cur.toList.drop ((i + m) * 5 + (xs.drop (i * 5)).length)).toArray := ⟨_, rfl⟩
  have hs1 : cur1.size = c * 5 := by
    rw [hcur1]
    simp only [List.size_toArray, List.length_append, List.length_take, List.length_drop, Array.length_toList, hcs, hxl]
    omega
  have hcp1 : ∀ ty dc sc, (Builtin.copy_ #[64, 64] ty #[.slice (some ⟨g, (i + m) * 5, none⟩) (n + m - (i + m)) dc, .slice (some ⟨g, i * 5, none⟩) (n + m - i) sc]).run Try.prog w.drew = .ok (goInt (Nat.min (n + m - i) (n + m - (i + m)))) (w.drew.setRow g cur1) := fun ty dc sc => by
    rw [hcur1]
    exact run_copy_big w.drew _ _ ty 72 5 g ((i + m) * 5) (n + m - (i + m)) dc ⟨g, i * 5, none⟩ (n + m - i) sc cur 72 (xs.drop (i * 5)) Try.underlying64 sizeHd hg (by rw [hdl]; simp only [Nat.min_def]; split <;> omega)
      (fun j v hj => by rw [Addr.add_lit]; exact hxcell (i * 5 + j) v (by rwa [List.getElem?_drop] at hj)) (by rw [hdl, hcs]; omega) (fun v hv => h1x v (List.mem_of_mem_drop hv))
  obtain ⟨W1, hW1⟩ : ∃ W1, W1 = w.drew.setRow g cur1 := ⟨_, rfl⟩
  have hg1 : W1.heap[g]? = some (.cells cur1 72 (0, 0)) := by rw [hW1]; exact setRow_heap w.drew g cur _ _ _ hg
  have hcp2 : ∀ ty dc, (Builtin.copy_ #[64, 64] ty #[.slice (some ⟨g, i * 5, none⟩) (n + m - i) dc, .slice (some ⟨vb, 0, none⟩) m m]).run Try.prog W1 = .ok (goInt (Nat.min m (n + m - i))) (W1.setRow g (cur1.toList.take (i * 5) ++ us ++ cur1.toList.drop (i * 5 + us.length)).toArray) := fun ty dc =>
    run_copy_big W1 _ _ ty 72 5 g (i * 5) (n + m - i) dc ⟨vb, 0, none⟩ m m cur1 72 us Try.underlying64 sizeHd hg1 (by rw [hul]; simp only [Nat.min_def]; split <;> omega)
      (fun j v hj => by
        rw [Addr.add_lit, hW1, cell_setRow_other _ _ _ _ hne, Nat.zero_add]
        exact hucell j v hj) (by rw [hul, hs1]; omega) h1u
  rw [← hW1] at hcp1
  have HE := Lib.hid (show ∀ w', w' = W1.setRow g (cur1.toList.take (i * 5) ++ us ++ cur1.toList.drop (i * 5 + us.length)).toArray → w' = (w.drew.setRow g (cur.toList.take ((i + m) * 5) ++ xs.drop (i * 5) ++ cur.toList.drop ((i + m) * 5 + (xs.drop (i * 5)).length)).toArray).setRow g
        (((cur.toList.take ((i + m) * 5) ++ xs.drop (i * 5) ++ cur.toList.drop ((i + m) * 5 + (xs.drop (i * 5)).length))).take (i * 5) ++ us ++ ((cur.toList.take ((i + m) * 5) ++ xs.drop (i * 5) ++ cur.toList.drop ((i + m) * 5 + (xs.drop (i * 5)).length))).drop (i * 5 + us.length)).toArray from fun w' e => by rw [e, hW1, hcur1])
  have HC2 := Lib.hid hcp2
  clear hcp2 hW1 hcur1 hs1 hg1 hxcell hucell hdl hg hvb h1x h1u hul hxl htk hcs
  go_enter Try.func51, Try.ntmps51
  go_wp2_with (simp only [hov])
  go_region_law (refine step_copy_runI rfl _ _ 64 64 rfl _ _ (by simp [Act.eval, Act.put]) (by simp [Act.eval, Act.put]) (hcp1 _ _ _) ?_)
  go_wp2_with (refine wpList_copy_runI _ rfl (.tmp 80) (.tmp 81) 64 64 rfl _ _ rfl rfl (HC2.out _ _) ?_)
  go_ret
  exact ⟨rfl, HE.out _ (by rw [List.append_assoc])⟩

set_option maxHeartbeats 8000000 in
set_option maxRecDepth 100000 in
theorem ins_grow (g n c i m vb : Nat) (cur : Array Value) (xs us : List Value) (w : World) (hg : w.heap[g]? = some (.cells cur 72 (0, 0))) (hcs : cur.size = c * 5) (hnc : n ≤ c) (htk : cur.toList.take (n * 5) = xs) (hxl : xs.length = n * 5)
    (hi : i < n) (hm : 0 < m) (hroom : c < n + m) (hbig : n + m ≤ 2000000) (hul : us.length = m * 5) (h1u : ∀ u ∈ us, u.oneCell' = true) (h1x : ∀ u ∈ xs, u.oneCell' = true) (hvb : w.heap[vb]? = some (.cells us.toArray 72 (0, 0))) :
    Calls Try.prog 51 #[.slice (some ⟨g, 0, none⟩) n c, .int .i64 (i : Nat), .slice (some ⟨vb, 0, none⟩) m m] w fun e w' =>
      ∃ q cur2 R, e = .returned (.slice (some ⟨w.heap.size, 0, none⟩) (n + m) q) ∧ n + m ≤ q ∧ q ≤ maxLen ∧ cur2.size = q * 5 ∧ cur2.toList = xs.take (i * 5) ++ us ++ xs.drop (i * 5) ++ R ∧
        w'.heap[w.heap.size]? = some (.cells cur2 72 (0, 0)) ∧ w.grownBy w' none := by
  have q63 : maxLen = 9223372036854775807 := rfl
  obtain ⟨i0, hi0, hz0, hzs, hzb⟩ := info_parts infoHd
  have hz1 : ¬ ((m : Int) = 0) := by omega
  have hz2 : ¬ ((i : Int) = (n : Int)) := by omega
  have hdl : (xs.drop (i * 5)).length = (n - i) * 5 := by rw [List.length_drop, hxl]; omega
  have hglt : g < w.heap.size := (Array.getElem?_eq_some_iff.1 hg).1
  have hvlt : vb < w.heap.size := (Array.getElem?_eq_some_iff.1 hvb).1
  have hxcell : ∀ j v, xs[j]? = some v → w.cell? ⟨g, j, none⟩ = some v := fun j v hj => by
    rw [← htk, List.getElem?_take] at hj
    split at hj
    · simp [World.cell?, hg, ← Array.getElem?_toList, hj]
    · cases hj
  have hucell : ∀ j v, us[j]? = some v → w.cell? ⟨vb, j, none⟩ = some v := fun j v hj => by simp [World.cell?, hvb, hj]
  have hold : (Builtin.firstCells i0.size i (.slice (some ⟨g, 0, none⟩) i c)).run Try.prog w.drew = .ok (xs.take (i * 5)).toArray w.drew := by
    rw [hzs]
    exact run_firstCells_some w.drew 5 i ⟨g, 0, none⟩ i c (xs.take (i * 5)) (by rw [List.length_take, hxl]; omega) (fun j v hj => by
      rw [Addr.add_lit, Nat.zero_add]
      rw [List.getElem?_take] at hj
      split at hj
      · exact hxcell j v hj
      · cases hj)
  have hfit : Builtin.nextslicecap (i + (n + m - i)) c * i0.bytes ≤ 281474976710656 := by
    rw [hzb]
    exact growslice_fits (need := i + (n + m - i)) (by omega) (by omega)
  have hrun0 := fun ty => Lib.run_append_grow_zeros (P := Try.prog) w 64 3 ty 72 i0 _ .i64 .i64 Try.underlying64 Try.underlying3 hi0 hz0 (some ⟨g, 0, none⟩) i c _ hold (n + m - i) (by omega) (by rw [hzs]; decide) (by omega) (by omega) (by rw [hzb]; omega) hfit
  have e1 : i + (n + m - i) = n + m := by omega
  have e2 : ((n + m - i : Nat) : Int) = (n : Int) + (m : Int) - (i : Int) := by omega
  have hqg := grownCap_ge w (n + m) c 72
  have hqm := grownCap_le_maxLen w (n + m) c 72 (by omega)
  rw [e1, e2] at hrun0
  obtain ⟨q, hq⟩ : ∃ q, grownCap w (n + m) c 72 = q := ⟨_, rfl⟩
  rw [hq] at hqg hqm hrun0
  obtain ⟨Z, hZ, hZl⟩ : ∃ Z : List Value, (xs.take (i * 5)).toArray ++ Builtin.zeroCells (Value.agg #[.int .i64 0, .int .i64 0, .int .i64 0, .int .u64 0, .int .i64 0]).cells (n + m - i) ++ Builtin.zeroCells (Value.agg #[.int .i64 0, .int .i64 0, .int .i64 0, .int .u64 0, .int .i64 0]).cells (q - (n + m)) = (xs.take (i * 5) ++ Z).toArray ∧ Z.length = (q - i) * 5 :=
    ⟨(Builtin.zeroCells (Value.agg #[.int .i64 0, .int .i64 0, .int .i64 0, .int .u64 0, .int .i64 0]).cells (n + m - i)).toList ++ (Builtin.zeroCells (Value.agg #[.int .i64 0, .int .i64 0, .int .i64 0, .int .u64 0, .int .i64 0]).cells (q - (n + m))).toList, by apply Array.ext'; simp, by
      rw [List.length_append, Array.length_toList, Array.length_toList, size_zeroCells, size_zeroCells, zero_hd]
      show (n + m - i) * 5 + (q - (n + m)) * 5 = _
      omega⟩
  rw [hZ] at hrun0
  clear hZ hold
  have hxt : (xs.take (i * 5)).length = i * 5 := by rw [List.length_take, hxl]; omega
  obtain ⟨W0, hW0⟩ : ∃ W0, W0 = w.drew.alloc (.cells (xs.take (i * 5) ++ Z).toArray 72) := ⟨_, rfl⟩
  have hg0 : W0.heap[w.heap.size]? = some (.cells (xs.take (i * 5) ++ Z).toArray 72 (0, 0)) := by rw [hW0]; exact heap_alloc_new w.drew _
  have hold0 : ∀ b, b < w.heap.size → W0.heap[b]? = w.heap[b]? := fun b hb => by rw [hW0]; exact heap_alloc_old w.drew _ hb
  rw [← hW0] at hrun0
  obtain ⟨G, hG⟩ : ∃ G, w.heap.size = G := ⟨_, rfl⟩
  rw [hG] at hrun0 hg0 hold0 hglt hvlt
  obtain ⟨c1, hc1⟩ : ∃ c1 : List Value, c1 = xs.take (i * 5) ++ us ++ Z.drop (m * 5) := ⟨_, rfl⟩
  have hc1l : c1.length = q * 5 := by rw [hc1]; simp only [List.length_append, hxt, hul, List.length_drop, hZl]; omega
  have e3 : (xs.take (i * 5) ++ Z).take (i * 5) ++ us ++ (xs.take (i * 5) ++ Z).drop (i * 5 + us.length) = c1 := by
    rw [hc1, List.take_left' hxt, List.drop_append, List.drop_of_length_le (by omega), List.nil_append, hxt, hul, Nat.add_sub_cancel_left]
  have e4 : c1.take ((i + m) * 5) = xs.take (i * 5) ++ us := by
    rw [hc1, List.take_left' (by rw [List.length_append, hxt, hul]; omega)]
  have hcp1 : ∀ ty, (Builtin.copy_ #[64, 64] ty #[.slice (some ⟨G, i * 5, none⟩) (n + m - i) (q - i), .slice (some ⟨vb, 0, none⟩) m m]).run Try.prog W0 = .ok (goInt (Nat.min m (n + m - i))) (W0.setRow G c1.toArray) := fun ty => by
    rw [run_copy_big W0 _ _ ty 72 5 G (i * 5) (n + m - i) (q - i) ⟨vb, 0, none⟩ m m _ 72 us Try.underlying64 sizeHd hg0 (by rw [hul]; simp only [Nat.min_def]; split <;> omega)
      (fun j v hj => by rw [Addr.add_lit, Nat.zero_add, World.cell?_of_block (w := w) (a := ⟨vb, j, none⟩) (hold0 vb hvlt)]; exact hucell j v hj) (by simp only [List.size_toArray, List.length_append, hxt, hZl, hul]; omega) h1u, e3]
  obtain ⟨W1, hW1⟩ : ∃ W1, W1 = W0.setRow G c1.toArray := ⟨_, rfl⟩
  have hg1 : W1.heap[G]? = some (.cells c1.toArray 72 (0, 0)) := by rw [hW1]; exact setRow_heap W0 G _ _ _ _ hg0
  have hold1 : ∀ b, b < G → W1.heap[b]? = w.heap[b]? := fun b hb => by rw [hW1, setRow_other _ _ _ _ (by omega)]; exact hold0 b hb
  rw [← hW1] at hcp1
  have hcp2 : ∀ ty, (Builtin.copy_ #[64, 64] ty #[.slice (some ⟨G, (i + m) * 5, none⟩) (n + m - (i + m)) (q - (i + m)), .slice (some ⟨g, i * 5, none⟩) (n - i) (c - i)]).run Try.prog W1.drew = .ok (goInt (Nat.min (n - i) (n + m - (i + m)))) (W1.drew.setRow G (xs.take (i * 5) ++ us ++ xs.drop (i * 5) ++ c1.drop ((i + m) * 5 + (xs.drop (i * 5)).length)).toArray) := fun ty => by
    rw [run_copy_big W1.drew _ _ ty 72 5 G ((i + m) * 5) (n + m - (i + m)) (q - (i + m)) ⟨g, i * 5, none⟩ (n - i) (c - i) _ 72 (xs.drop (i * 5)) Try.underlying64 sizeHd hg1 (by rw [hdl]; simp only [Nat.min_def]; split <;> omega)
      (fun j v hj => by
        rw [Addr.add_lit]
        show W1.cell? ⟨g, i * 5 + j, none⟩ = some v
        rw [World.cell?_of_block (w := w) (a := ⟨g, i * 5 + j, none⟩) (hold1 g hglt)]
        exact hxcell (i * 5 + j) v (by rwa [List.getElem?_drop] at hj)) (by rw [List.size_toArray, hc1l, hdl]; omega) (fun v hv => h1x v (List.mem_of_mem_drop hv))]
    simp only [e4]
  obtain ⟨c2, hc2⟩ : ∃ c2, c2 = xs.take (i * 5) ++ us ++ xs.drop (i * 5) ++ c1.drop ((i + m) * 5 + (xs.drop (i * 5)).length) := ⟨_, rfl⟩
  rw [← hc2] at hcp2
  have hc2l : c2.length = q * 5 := by rw [hc2]; simp only [List.length_append, hxt, hul, hdl, List.length_drop, hc1l]; omega
  have HEND := Lib.hid (show ∃ q' cur2 R, Ending.returned (.slice (some ⟨G, 0, none⟩) (n + m) q) = .returned (.slice (some ⟨w.heap.size, 0, none⟩) (n + m) q') ∧ n + m ≤ q' ∧ q' ≤ maxLen ∧ cur2.size = q' * 5 ∧ cur2.toList = xs.take (i * 5) ++ us ++ xs.drop (i * 5) ++ R ∧
        (W1.drew.setRow G c2.toArray).heap[w.heap.size]? = some (.cells cur2 72 (0, 0)) ∧ w.grownBy (W1.drew.setRow G c2.toArray) none from by
    refine ⟨q, c2.toArray, c1.drop ((i + m) * 5 + (xs.drop (i * 5)).length), by rw [hG], hqg, hqm, by simpa using hc2l, by simpa using hc2, ?_, ?_⟩
    · rw [hG]
      exact setRow_heap W1.drew G _ _ _ _ hg1
    · refine ⟨?_, ?_, ?_, ?_, fun b hb _ => ?_⟩
      · rw [setRow_os, hW1, hW0]; rfl
      · rw [setRow_tape, hW1, hW0]; rfl
      · rw [setRow_output, hW1, hW0]; rfl
      · rw [setRow_size]
        show w.heap.size ≤ W1.heap.size
        rw [hW1, setRow_size, hW0]
        simp
      · rw [setRow_other _ _ _ _ (by omega)]
        exact hold1 b (by omega))
  have hw1 : IntKind.i64.wrap ((i : Int) + (m : Int)) = (i : Int) + (m : Int) := by rw [IntKind.wrap_i64]; omega
  have hb1 : (0 : Int) ≤ (i : Int) + (m : Int) := by omega
  have hin : i ≤ n := by omega
  have htn : ((i : Int) + (m : Int)).toNat = i + m := by omega
  have hb2 : ¬ (q = i + m) := by omega
  have hb3 : (i : Int) ≤ (n : Int) + (m : Int) := by omega
  have hb4 : ¬ (c = i) := by omega
  have hb5 : ¬ (q = i) := by omega
  have HC1 := Lib.hid hcp1
  have HR := Lib.hid hrun0
  clear hcp1 hrun0 hW1 hg1 hold1 hW0 hg0 hold0 hc1 hc1l e3 e4 hc2 hc2l hxcell hucell hdl hg hvb h1x h1u hul hxl htk hcs hZl hxt hfit e1 e2 hi0 hz0 hzs hzb hG
  go_enter Try.func51, Try.ntmps51
  go_wp2_with (first
    | (at_builtin; refine Lib.wpList_append_run _ rfl (.tmp 34) (.tmp 39) 64 3 rfl _ _ rfl rfl _ _ (HR.out _) ?_)
    | (refine wpList_copy_runI _ rfl (.tmp 43) (.tmp 44) 64 64 rfl _ _ rfl rfl (HC1.out _) ?_))
  go_region_law (refine step_copy_runI rfl _ _ 64 64 rfl _ _ (by simp [Act.eval, Act.put]) (by simp [Act.eval, Act.put]) (hcp2 _) ?_)
  go_wp2_with fail
  go_ret
  exact HEND.out
end Go.Proofs.Ytimbbfneaaglbaa.Heads
