/-
  The landed own: Tests and Steps (stage 14). By an AI agent.
  Ways that every program must know (stage 14). By an AI agent.
  Tables compared, and whether they are square: the law's own words (stage 14). By an AI agent.
-/
import Derived.Test.YtcpmcgbjmncalaaGPathsUnion41
import Derived.Test.YtcpmcgbjmncalaaGPathsUnion39
import Derived.Test.YtcpmcgbjmncalaaGPathsUnion38
import Derived.Test.YtcpmcgbjmncalaaGPathsUnion40
import Derived.Test.YtcpmcgbjmncalaaGPathsUnion3
namespace Go.Proofs.Ytcpmcgbjmncalaa.Paths
open Go.RowKit Go.Shelf Go.Proofs.Ytcpmcgbjmncalaa.Ints Go.Proofs.Ytcpmcgbjmncalaa.Mem Go.Proofs.Ytcpmcgbjmncalaa.Src Go.Proofs.Ytcpmcgbjmncalaa.Tree Go.Proofs.Ytcpmcgbjmncalaa.BitsWalks Go.Proofs.Ytcpmcgbjmncalaa.RdW Go.Proofs.Ytcpmcgbjmncalaa.Words Go.Proofs.Ytcpmcgbjmncalaa.Round

attribute [local go_sem] Oper.semAt_some wide_fn wide_depth

theorem setCells_other {g k : Nat} (hk : k ≠ g) : ∀ (vs : List Value) (o : Nat) (w : World), (w.setCells g o vs).heap[k]? = w.heap[k]?
  | [], _, _ => rfl
  | v :: r, o, w => (setCells_other hk r (o + 1) _).trans (Below.heap_setCell w ⟨g, o, none⟩ v k hk)
theorem setCells_below {B g : Nat} {a : World} (hg : B ≤ g) : ∀ (vs : List Value) (o : Nat) (w : World), Below B a w → Below B a (w.setCells g o vs)
  | [], _, _, h => h
  | v :: r, o, _, h => setCells_below hg r (o + 1) _ (h.setCell (p := ⟨g, o, none⟩) hg v)
set_option maxHeartbeats 16000000 in
set_option maxRecDepth 100000 in
theorem landOwn (A : Option Addr) (n c : Nat) (l : List Nd) (kd : Int) (w : World) (hl : l.length = n) (hn : n ≤ 1048576) (h : Nodes Tree.Any w A l) :
    Calls Try.prog 24 #[.slice A n c, .int .i64 kd] w (GotIdxs w (placesR l kd)) := by
  by_cases hreg : regL l = true
  rotate_left
  · have hr : regL l = false := Bool.eq_false_iff.2 hreg
    have HP := Lib.hid (show placesR l kd = [] by unfold placesR; rw [hr]; rfl)
    have hal : Below w.heap.size w (w.alloc (.cells #[.int .i64 kd] 3)) := (Below.refl _ _).alloc (Nat.le_refl _) _
    have HREG := Lib.hid (landReg A n c l _ hl hn (h.below hal))
    rw [hr] at HREG
    have HB := Lib.hid hal
    clear hreg hr h hal
    refine calls_of (n := 10) ?_
    refine callsIn_of_wp_marks Try.func24 rfl trivial ?_ rfl
    simp only [Try.ntmps24, List.size_toArray, List.length_cons, List.length_nil, Nat.reduceAdd, Nat.reduceSub, Array.replicate_succ, Array.replicate_zero, List.push_toArray, List.append_toArray, List.nil_append, List.cons_append]
    gi_wp2_with fail
    refine (callsIn_wide.2 HREG.out).mono ?_
    rintro e w1 ⟨rfl, hB1⟩
    gi_wp2_with fail
    refine ⟨_, results_tmp rfl _ _ _, ?_⟩
    unfold GotIdxs
    rw [HP.out]
    exact ⟨none, 0, rfl, Rd.nil _ _ _, Nat.le_refl _, by decide, HB.out.trans (hB1.mono HB.out.size), fun a e => by cases e⟩
  have hm : mayL l = true := by have h9 := hreg; unfold regL at h9; rw [Bool.and_eq_true] at h9; exact h9.1
  have q63 : maxLen = 9223372036854775807 := rfl
  obtain ⟨i0, hi, hz0, hz1, hz2⟩ := info_parts infoBl
  have b1 : i0.bytes * n ≤ 281474976710656 := by rw [hz2]; omega
  have b3 : n ≤ maxLen := by omega
  have hal : Below w.heap.size w (w.alloc (.cells #[.int .i64 kd] 3)) := (Below.refl _ _).alloc (Nat.le_refl _) _
  have hx0 := Blk.new w #[.int .i64 kd] 3 _ rfl
  obtain ⟨w1, hw1⟩ : ∃ w1, w.alloc (.cells #[.int .i64 kd] 3) = w1 := ⟨_, rfl⟩
  have hs1 : w1.heap.size = w.heap.size + 1 := by rw [← hw1]; simp
  rw [hw1] at hal hx0
  have HREG := Lib.hid (landReg A n c l w1 hl hn (h.below hal))
  rw [hreg] at HREG
  have HX0 := Lib.hid hx0
  have HB1 := Lib.hid hal
  have HN := Lib.hid h
  have HRG := Lib.hid hreg
  clear h hal hx0 hreg
  refine calls_of (n := 10) ?_
  refine callsIn_of_wp_marks Try.func24 rfl trivial ?_ rfl
  simp only [Try.ntmps24, List.size_toArray, List.length_cons, List.length_nil, Nat.reduceAdd, Nat.reduceSub, Array.replicate_succ, Array.replicate_zero, List.push_toArray, List.append_toArray, List.nil_append, List.cons_append]
  refine wpIn_wide.2 ?_
  go_wp2_with fail
  refine HREG.out.mono ?_
  rintro e w2 ⟨rfl, hB2⟩
  have HBL2 := Lib.hid (HB1.out.trans (hB2.mono HB1.out.size))
  have HX2 := Lib.hid (HX0.out.later hB2)
  have hs2 := hB2.size
  clear hB2
  -- the list, the marks
  have h23 : Below w2.heap.size w2 (w2.alloc (.cells #[] 3)) := (Below.refl _ _).alloc (Nat.le_refl _) _
  have hf3 := heap_alloc_new w2 (.cells #[] 3)
  obtain ⟨w3, hw3⟩ : ∃ w3, w2.alloc (.cells #[] 3) = w3 := ⟨_, rfl⟩
  have hs3 : w3.heap.size = w2.heap.size + 1 := by rw [← hw3]; simp
  rw [hw3] at h23 hf3
  have h34 : Below w3.heap.size w3 (w3.alloc (.cells #[.slice (some ⟨w2.heap.size, 0, none⟩) 0 0] 27)) := (Below.refl _ _).alloc (Nat.le_refl _) _
  have hx5 := heap_alloc_new w3 (.cells #[.slice (some ⟨w2.heap.size, 0, none⟩) 0 0] 27)
  obtain ⟨w4, hw4⟩ : ∃ w4, w3.alloc (.cells #[.slice (some ⟨w2.heap.size, 0, none⟩) 0 0] 27) = w4 := ⟨_, rfl⟩
  have hs4 : w4.heap.size = w3.heap.size + 1 := by rw [← hw4]; simp
  rw [hw4] at h34 hx5
  have hf4 := (h34.block w2.heap.size (by omega)).trans hf3
  have HBL4 := Lib.hid (HBL2.out.trans ((h23.trans (h34.mono h23.size)).mono HBL2.out.size))
  have HX4 := Lib.hid ((HX2.out.later h23).later h34)
  have HF4 := Lib.hid hf4
  have HX5 := Lib.hid hx5
  have HS4 := Lib.hid (And.intro hs3 hs4)
  clear h23 h34 hf3 hf4 hx5
  go_wp2_with (at_make; refine wpList_make_full _ rfl (.tmp 16) (.tmp 16) 44 rfl w.heap.size 4 i0 (.bool false) 1 Try.underlying44 hi hz0 hz1 .i64 .i64 _ _ n rfl rfl rfl rfl b1 b3 HBL4.out.size ?_; intro w5 hmade hgr5; rw [made_bools] at hmade)
  have hb45 : Below w4.heap.size w4 w5 := ⟨hgr5.os, hgr5.tape, hgr5.output, hgr5.size, fun k hk => hgr5.block k hk (by simp)⟩
  have e4 : w4.heap.size = w2.heap.size + 1 + 1 := by omega
  rw [e4] at hmade
  have hBTl : w2.heap.size + 1 + 1 < w5.heap.size := (hmade.lt _ rfl).2
  have h56 : Below w5.heap.size w5 (w5.alloc (.cells #[.slice (some ⟨w2.heap.size + 1 + 1, 0, none⟩) n n] 44)) := (Below.refl _ _).alloc (Nat.le_refl _) _
  have hx6 := heap_alloc_new w5 (.cells #[.slice (some ⟨w2.heap.size + 1 + 1, 0, none⟩) n n] 44)
  obtain ⟨w6, hw6⟩ : ∃ w6, w5.alloc (.cells #[.slice (some ⟨w2.heap.size + 1 + 1, 0, none⟩) n n] 44) = w6 := ⟨_, rfl⟩
  have hs6 : w6.heap.size = w5.heap.size + 1 := by rw [← hw6]; simp
  rw [hw6] at h56 hx6 ⊢
  have h46 : Below w4.heap.size w4 w6 := hb45.trans (h56.mono hb45.size)
  refine (backN _ _ _ _).mono ?_
  rintro e w8 ⟨rfl, rfl⟩
  go_wp2_with fail
  have h67 : Below w6.heap.size w6 (w6.alloc (.cells #[.slice A n c] 22)) := (Below.refl _ _).alloc (Nat.le_refl _) _
  have hxB := Blk.new w6 #[.slice A n c] 22 _ rfl
  obtain ⟨w7, hw7⟩ : ∃ w7, w6.alloc (.cells #[.slice A n c] 22) = w7 := ⟨_, rfl⟩
  rw [hw7] at h67 hxB ⊢
  have hs7 : w7.heap.size = w6.heap.size + 1 := by rw [← hw7]; simp
  rw [hs6] at hxB
  have h47 : Below w4.heap.size w4 w7 := h46.trans (h67.mono h46.size)
  have hbw7 : Below w.heap.size w w7 := HBL4.out.trans (h47.mono HBL4.out.size)
  have hsz2 := HBL2.out.size
  have hNS : Nodes (fun b => b < w.heap.size) w A l := HN.out.mono (fun b hb _ => hb)
  obtain ⟨Fk, hFk⟩ := nodes_pick hNS
  have hF7 : w7.heap[w2.heap.size]? = some (.cells #[] 3 (0, 0)) := (h47.block w2.heap.size (by omega)).trans HF4.out
  have hx57 : Boxed w7 (w2.heap.size + 1) 27 (.slice (some ⟨w2.heap.size, 0, none⟩) 0 0) := by
    have := HX5.out
    rw [hs3] at this
    exact (h47.block (w2.heap.size + 1) (by omega)).trans this
  have hx67 : Boxed w7 w5.heap.size 44 (.slice (some ⟨w2.heap.size + 1 + 1, 0, none⟩) n n) := (h67.block w5.heap.size (by omega)).trans hx6
  have hrow7 : w7.ownsRow w.heap.size 4 1 (.slice (some ⟨w2.heap.size + 1 + 1, 0, none⟩) n n) n (rowB n fun _ => false) := by
    have e : rowB n (fun _ => false) = List.replicate n (.bool false) := by
      unfold rowB
      rw [List.map_const', List.length_range]
    rw [e]
    exact Mem.below_row (Mem.below_row hmade h56) h67
  have hfd7 : w7.ownsRow w.heap.size 3 1 (.slice (some ⟨w2.heap.size, 0, none⟩) 0 0) 0 [] := ⟨rfl, .inr ⟨w2.heap.size, 0, #[], rfl, hsz2, hF7, Nat.le_refl _, by decide, rfl, rfl⟩⟩
  have HBW7 := Lib.hid hbw7
  refine (wpIn_wide (n := 10)).1 ?_
  refine own_range A n c w.heap.size (w2.heap.size + 1) w5.heap.size (w2.heap.size + 1 + 1) (w5.heap.size + 1) w.heap.size kd l Fk (.slice (some ⟨w2.heap.size, 0, none⟩) 0 0) _ _ w7 _ _ rfl hl hn hm ((HX4.out.later h47).cell 0 rfl) hx67
    ⟨hx57, hrow7, hfd7, Left.refl _ _, fun q e => .inl e, fun e => by cases e⟩ (hxB.cell 0 rfl) (by omega) (by omega) (fun k hk => ?_) (fun k hk => ?_) (fun k hk => ?_) (fun i hi => (hFk i (by omega)).left (fun q hq => hbw7.block q hq)) ?_
  · rcases hk with rfl | rfl | e
    · omega
    · omega
    · injection e with e; show k ≠ w.heap.size; have e : w2.heap.size = k := e; omega
  · rcases hk with rfl | rfl | e
    · omega
    · omega
    · injection e with e; show k ≠ w5.heap.size; have e : w2.heap.size = k := e; omega
  · rcases hk with rfl | rfl | e
    · omega
    · omega
    · injection e with e; show k ≠ w5.heap.size + 1; have e : w2.heap.size = k := e; omega
  · intro D W fv hD hO hK
    have hDlo : ∀ k, (k = w2.heap.size + 1 + 1 ∨ k = w2.heap.size + 1 ∨ (Value.slice (some ⟨w2.heap.size, 0, none⟩) 0 0).ownBlock = some k) → w.heap.size ≤ k := fun k hk => by
      rcases hk with rfl | rfl | e
      · omega
      · omega
      · injection e with e; have e : w2.heap.size = k := e; omega
    have hbe : Below w.heap.size w W := hbw7.trans (hO.left.below hDlo hbw7.size)
    obtain ⟨fd, hfd⟩ : ∃ fd, (ownF l kd (dn n n)).2 = fd := ⟨_, rfl⟩
    have hFO := hO.found
    rw [hfd] at hFO
    have HFR := Lib.hid (show fd.reverse = placesR l kd by rw [← hfd, ← hl]; exact ownF_all HRG.out kd)
    have hfl : fd.length ≤ n := by rw [← hfd]; have := ownF_len l kd _ (dn n n) rfl; rw [dn_len (Nat.le_refl _)] at this; exact this
    have hfi : ∀ q ∈ fd, q < n := fun q hq => by
      have h1 : q ∈ placesR l kd := by rw [← HFR.out]; exact List.mem_reverse.2 hq
      unfold placesR at h1
      rw [if_pos HRG.out] at h1
      unfold placesL at h1
      have := List.mem_range.1 (List.mem_filter.1 h1).1
      omega
    obtain ⟨g, cap, hcm, rfl⟩ : ∃ g cap, (fd.length ≤ cap ∧ cap ≤ maxLen) ∧ fv = .slice (some ⟨g, 0, none⟩) fd.length cap := by
      rcases hFO.2 with ⟨e1, -⟩ | ⟨g1, c1, cur1, e1, -, -, h8, h9, -⟩
      · exact absurd (by rw [e1]; rfl) hO.isSome
      · exact ⟨g1, c1, ⟨h8, h9⟩, e1⟩
    have hg := hFO.lt _ rfl
    have hgD : D ≠ g := fun e => by
      rcases hFO.2 with ⟨e1, -⟩ | ⟨g1, c1, cur1, e1, -, hq1, -⟩
      · cases e1
      · injection e1 with e1
        injection e1 with e1
        injection e1 with e1
        rw [← e1, ← e, hK] at hq1
        cases hq1
    have hg5 := boxed_off hO.x5 hFO (by decide)
    have hzl : (fd.map fun x => ((x : Nat) : Int)).length = fd.length := List.length_map ..
    have hcz : ∀ j, j < (fd.map fun x => ((x : Nat) : Int)).length → W.cell? ⟨g, 0 + j, none⟩ = some (.int .i64 ((fd.map fun x => ((x : Nat) : Int)).getD j 0)) := fun j hj => by
      rw [hzl] at hj
      have := hFO.cells (g := g) rfl j (.int .i64 ((fd[j] : Nat) : Int)) (by rw [List.getElem?_map, List.getElem?_eq_getElem hj]; rfl)
      rw [Addr.add_lit] at this
      rw [this, List.getD_eq_getElem?_getD, List.getElem?_map, List.getElem?_eq_getElem hj]
      rfl
    have hrev := Try.slices_Reverse_int_cells g 0 fd.length cap (fd.map fun x => ((x : Nat) : Int)) W (by rw [hzl]; exact Nat.le_refl _) (by omega) hcz (fun j _ => by rw [Nat.zero_add]; exact own_fz hFO j)
    rw [List.take_of_length_le (by rw [hzl]; exact Nat.le_refl _), ← List.map_reverse, HFR.out, List.map_map] at hrev
    have c5 := hO.x5.cell
    obtain ⟨ys, hys⟩ : ∃ ys, (placesR l kd).map (Value.int .i64 ∘ fun x => ((x : Nat) : Int)) = ys := ⟨_, rfl⟩
    have hyl : ys.length = fd.length := by rw [← hys, List.length_map, ← HFR.out, List.length_reverse]
    have hfin := fun (q : Nat) => show ((W.drewN q).setCells g 0 ys).cell? ⟨w2.heap.size + 1, 0, none⟩ = some (.slice (some ⟨g, 0, none⟩) fd.length cap) from by
      rw [World.cell?_setCells_out g ys 0 _ _ (fun e _ => absurd e.symm hg5)]
      exact c5
    have HEND := Lib.hid (fun (q : Nat) => show ((W.drewN q).setCells g 0 ys).heap[D]? = some (.deferred (some [])) ∧ GotIdxs w (placesR l kd) (.returned (.slice (some ⟨g, 0, none⟩) fd.length cap)) (((W.drewN q).setCells g 0 ys).putObj D (.deferred none)) from by
      have hd1 : ((W.drewN q).setCells g 0 ys).heap[D]? = some (.deferred (some [])) := (setCells_other hgD ys 0 (W.drewN q)).trans hK
      refine ⟨hd1, ?_⟩
      unfold GotIdxs
      have hpl : (placesR l kd).length = fd.length := by rw [← HFR.out, List.length_reverse]
      rw [hpl]
      have hbs : Below w.heap.size w ((W.drewN q).setCells g 0 ys) := setCells_below hg.1 ys 0 _ (Mem.below_drewN hbe q)
      refine ⟨some ⟨g, 0, none⟩, cap, rfl, ⟨by rw [List.length_map, hpl], fun j hj => ?_, fun _ => ⟨g, 0, rfl, fun j hj => ?_⟩⟩, hcm.1, hcm.2, hbs.grown (grownBy_putObj' _ D (.deferred none)) (by have := hbs.size; omega) (fun k e => by injection e with e; omega), fun a e => by injection e with e; rw [← e]; exact hg.1⟩
      · rw [List.getElem?_map]
        obtain ⟨q2, hq2⟩ : ∃ q2, (placesR l kd)[j]? = some q2 := ⟨_, List.getElem?_eq_getElem (by omega)⟩
        have hm2 : q2 ∈ fd := by
          have := List.mem_of_getElem? hq2
          rw [← HFR.out] at this
          exact List.mem_reverse.1 this
        have := hfi q2 hm2
        rw [hq2]
        simp [Lit.wf, IntKind.min, IntKind.max, IntKind.signed, IntKind.bits]
        omega
      · have hne : (((W.drewN q).setCells g 0 ys).putObj D (.deferred none)).heap[g]? = ((W.drewN q).setCells g 0 ys).heap[g]? := World.putObj_heap_other (fun e => hgD e.symm)
        rw [World.cell?_of_block (w := (W.drewN q).setCells g 0 ys) (a := ⟨g, 0 + j, none⟩) hne]
        rw [World.cell?_setCells_in g ys 0 (W.drewN q) (fun j2 hj2 => by
          have := hcz j2 (by rw [hzl]; omega)
          show (W.cell? ⟨g, 0 + j2, none⟩).isSome = true
          rw [this]
          rfl) j (by omega)]
        have h7 : ys[j]? = some (.int .i64 (((placesR l kd).map fun i => ((i : Nat) : Int))[j]?.getD 0)) := by
          rw [← hys, List.getElem?_map, List.getElem?_map, List.getElem?_eq_getElem (show j < (placesR l kd).length by omega)]
          rfl
        rw [List.getElem?_eq_getElem (by omega)] at h7
        exact h7)
    have hys2 : (placesR l kd).map (Value.int .i64 ∘ fun x => ((x : Nat) : Int)) = ys := hys
    have HRV := Lib.hid hrev
    have HFIN := Lib.hid hfin
    clear hO hK hbe hFO hg hgD hg5 hcz hrev hfin hfi hDlo hfd hys hyl hzl hcm
    rw [hys2] at HRV
    go_wp2_with fail
    refine HRV.out.mono ?_
    rintro e w9 ⟨rfl, q, rfl⟩
    have c9 := HFIN.out q
    go_wp2_with fail
    refine ⟨by simp, .inl ⟨_, _, rfl, run_takeDeferred (P := Try.prog) (HEND.out q).1, ?_⟩⟩
    refine ⟨_, results_tmp rfl _ _ _, ?_⟩
    exact (HEND.out q).2
theorem landSteps (A : Option Addr) (n c : Nat) (l : List Nd) (w : World) (hl : l.length = n) (hn : n ≤ 1048576) (h : Nodes Tree.Any w A l) :
    Calls Try.prog 13 #[.slice A n c] w (GotIdxs w (placesR l 18)) := by
  have HP := Lib.hid (landOwn A n c l 18 w hl hn h)
  unfold GotIdxs at HP ⊢
  obtain ⟨xs, hxs⟩ : ∃ xs, placesR l 18 = xs := ⟨_, rfl⟩
  rw [hxs] at HP ⊢
  clear h hxs
  go_enter Try.func13, Try.ntmps13
  go_wp2_with (go_at_call 24; refine HP.out.mono ?_; rintro e w1 ⟨Ao, co, rfl, h1, h2, h3, h4, h5⟩)
  go_ret
  exact ⟨Ao, co, rfl, h1, h2, h3, h4, h5⟩
end Go.Proofs.Ytcpmcgbjmncalaa.Paths

namespace Go.Proofs.Ytcpmcgbjmncalaa.Paths
open Go.RowKit Go.Shelf Go.Proofs.Ytcpmcgbjmncalaa.Ints Go.Proofs.Ytcpmcgbjmncalaa.Mem Go.Proofs.Ytcpmcgbjmncalaa.Src Go.Proofs.Ytcpmcgbjmncalaa.Tree Go.Proofs.Ytcpmcgbjmncalaa.BitsWalks Go.Proofs.Ytcpmcgbjmncalaa.RdW Go.Proofs.Ytcpmcgbjmncalaa.Words

/-- A step, and it any number of times. -/
def awakeL : List Nd := [⟨18, ⟨#[]⟩, 0, 0, []⟩, ⟨22, ⟨#[]⟩, 0, 0, [0]⟩]
theorem awake_reg : regL awakeL = true := by kernel_rfl
theorem awake_places : placesR awakeL 18 = [0] := by kernel_rfl
theorem awake_tab : (tableR awakeL (fun _ => []) 2 0 0, tableR awakeL (fun _ => []) 2 0 1, tableR awakeL (fun _ => []) 2 1 0, tableR awakeL (fun _ => []) 2 1 1) = (true, true, false, true) := by kernel_rfl
theorem nils_rd (w : World) (g n m : Nat) (h : w.ownsRow 0 35 1 (.slice (some ⟨g, 0, none⟩) n m) n (List.replicate n (.slice none 0 0))) : RdV w (some ⟨g, 0, none⟩) n (fun _ => []) := fun _ =>
  ⟨g, 0, rfl, fun i hi => ⟨none, 0, 0, by
    have := h.cells (g := g) rfl i (.slice none 0 0) (by rw [List.getElem?_replicate, if_pos hi])
    rwa [Addr.add_lit] at this, ⟨by rfl, fun j hj => by omega, fun h0 => by omega⟩, Nat.le_refl _, by decide⟩⟩
set_option maxHeartbeats 8000000 in
set_option maxRecDepth 100000 in
theorem lawAwake (w : World) : Calls Try.prog 8 #[] w fun e w' => e = .returned (.bool true) ∧ Below w.heap.size w w' := by
  obtain ⟨i0, hi, hz0, hz1, hz2⟩ := info_parts infoWs
  have b1 : i0.bytes * 2 ≤ 281474976710656 := by rw [hz2]; omega
  have b3 : 2 ≤ maxLen := by decide
  have h13 : Below w.heap.size w (w.alloc (.cells #[.int .i64 0] 3)) := (Below.refl _ _).alloc (Nat.le_refl _) _
  have hx3 := Blk.new w #[.int .i64 0] 3 _ rfl
  obtain ⟨w3, hw3⟩ : ∃ w3, w.alloc (.cells #[.int .i64 0] 3) = w3 := ⟨_, rfl⟩
  have hs3 : w3.heap.size = w.heap.size + 1 := by rw [← hw3]; simp
  rw [hw3] at h13 hx3
  have h34 : Below w3.heap.size w3 (w3.alloc (.cells #[.int .i64 18, .string { data := #[] }, .int .i64 0, .int .i64 0, .slice none 0 0, .int .i64 22, .string { data := #[] }, .int .i64 0, .int .i64 0, .slice (some ⟨w.heap.size, 0, none⟩) 1 1] 42)) := (Below.refl _ _).alloc (Nat.le_refl _) _
  have hx4 := Blk.new w3 #[.int .i64 18, .string { data := #[] }, .int .i64 0, .int .i64 0, .slice none 0 0, .int .i64 22, .string { data := #[] }, .int .i64 0, .int .i64 0, .slice (some ⟨w.heap.size, 0, none⟩) 1 1] 42 _ rfl
  obtain ⟨w4, hw4⟩ : ∃ w4, w3.alloc (.cells #[.int .i64 18, .string { data := #[] }, .int .i64 0, .int .i64 0, .slice none 0 0, .int .i64 22, .string { data := #[] }, .int .i64 0, .int .i64 0, .slice (some ⟨w.heap.size, 0, none⟩) 1 1] 42) = w4 := ⟨_, rfl⟩
  have hs4 : w4.heap.size = w3.heap.size + 1 := by rw [← hw4]; simp
  rw [hw4] at h34 hx4
  have hx3' := hx3.later h34
  have hN : Nodes Tree.Any w4 (some ⟨w.heap.size + 1, 0, none⟩) awakeL := fun _ => ⟨w.heap.size + 1, 0, rfl, fun j n hj => by
    rw [hs3] at hx4
    rcases Nat.lt_or_ge j 1 with h0 | h0
    · obtain rfl : j = 0 := by omega
      injection hj with hj
      subst hj
      exact ⟨hx4.cell 0 rfl, hx4.cell 1 rfl, hx4.cell 2 rfl, hx4.cell 3 rfl, by unfold Tree.small64; decide, by unfold Tree.small64; decide, by unfold Tree.small64; decide, by decide, none, 0, hx4.cell 4 rfl, Rd.nil _ _ _, Nat.le_refl _, by decide, trivial, fun a e => by cases e⟩
    · rcases Nat.lt_or_ge j 2 with h1 | h1
      · obtain rfl : j = 1 := by omega
        injection hj with hj
        subst hj
        refine ⟨hx4.cell 5 rfl, hx4.cell 6 rfl, hx4.cell 7 rfl, hx4.cell 8 rfl, by unfold Tree.small64; decide, by unfold Tree.small64; decide, by unfold Tree.small64; decide, by decide, some ⟨w.heap.size, 0, none⟩, 1, hx4.cell 9 rfl, ⟨rfl, fun q hq => ?_, fun _ => ⟨_, 0, rfl, fun q hq => ?_⟩⟩, Nat.le_refl _, by decide, trivial, fun a e _ => trivial⟩
        · obtain rfl : q = 0 := by have hq : q < 1 := hq; omega
          rfl
        · obtain rfl : q = 0 := by have hq : q < 1 := hq; omega
          exact hx3'.cell 0 rfl
      · rw [List.getElem?_eq_none (by exact h1)] at hj
        cases hj⟩
  have HN := Lib.hid hN
  have HB4 := Lib.hid (h13.trans (h34.mono h13.size))
  clear hN h13 h34 hx3 hx4 hx3'
  go_enter Try.func8, Try.ntmps8
  go_wp2_with (at_make; refine wpList_make_full _ rfl (.const (.int .i64 2)) (.const (.int .i64 2)) 30 rfl 0 35 i0 (.slice none 0 0) 1 Try.underlying30 hi hz0 hz1 .i64 .i64 _ _ 2 rfl rfl rfl rfl b1 b3 (Nat.zero_le _) ?_; intro w5 hmade hgr5; rw [made_slices] at hmade)
  have hb45 : Below w4.heap.size w4 w5 := ⟨hgr5.os, hgr5.tape, hgr5.output, hgr5.size, fun k hk => hgr5.block k hk (by simp)⟩
  have e4 : w4.heap.size = w.heap.size + 1 + 1 := by omega
  rw [e4] at hmade
  have HB5 := Lib.hid (HB4.out.trans (hb45.mono HB4.out.size))
  have HN5 := Lib.hid (HN.out.below hb45)
  refine (landReach (some ⟨w.heap.size + 1, 0, none⟩) (some ⟨w.heap.size + 1 + 1, 0, none⟩) 2 2 2 2 awakeL (fun _ => []) w5 rfl (Nat.le_refl _) (by decide) HN5.out (nils_rd w5 _ 2 2 hmade) (by decide)).mono ?_
  rw [gotR_yes awake_reg]
  rintro e w6 ⟨B, R, rfl, hT, hB6⟩
  obtain ⟨t00, t01, t10, t11⟩ : tableR awakeL (fun _ => []) 2 0 0 = true ∧ tableR awakeL (fun _ => []) 2 0 1 = true ∧ tableR awakeL (fun _ => []) 2 1 0 = false ∧ tableR awakeL (fun _ => []) 2 1 1 = true := by
    have := awake_tab
    injection this with a1 this
    injection this with a2 this
    injection this with a3 a4
    exact ⟨a1, a2, a3, a4⟩
  have o0 := hT.outer (show 0 < 2 by decide)
  have o1 := hT.outer (show 1 < 2 by decide)
  have i00 := hT.inner (i := 0) (j := 0) (by decide) (by decide)
  have i01 := hT.inner (i := 0) (j := 1) (by decide) (by decide)
  have i10 := hT.inner (i := 1) (j := 0) (by decide) (by decide)
  have i11 := hT.inner (i := 1) (j := 1) (by decide) (by decide)
  rw [t00] at i00
  rw [t01] at i01
  rw [t10] at i10
  rw [t11] at i11
  have HST := Lib.hid (landSteps (some ⟨w.heap.size + 1, 0, none⟩) 2 2 awakeL w6 rfl (by decide) (HN5.out.below hB6))
  have HB6 := Lib.hid (HB5.out.trans (hB6.mono HB5.out.size))
  rw [awake_places] at HST
  clear hT hmade hgr5 hb45 hB6 t00 t01 t10 t11
  go_wp2_with (go_at_call 13; refine HST.out.mono ?_; rintro e w9 ⟨Ao, co, rfl, -, -, -, hb9, -⟩)
  go_ret
  exact ⟨rfl, HB6.out.trans (hb9.mono HB6.out.size)⟩
end Go.Proofs.Ytcpmcgbjmncalaa.Paths

namespace Go.Proofs.Ytcpmcgbjmncalaa.Paths
open Go.RowKit Go.Proofs.Ytcpmcgbjmncalaa.Ints Go.Proofs.Ytcpmcgbjmncalaa.Mem Go.Proofs.Ytcpmcgbjmncalaa.Src

set_option maxHeartbeats 4000000 in
set_option maxRecDepth 100000 in
theorem lawSquare (A : Option Addr) (n c n2 : Nat) (m : Tb) (w : World) (h : RdT w A n m) (h2 : n2 = n) (hc : n ≤ c) (hn : n ≤ 1000000) :
    Calls Try.prog 22 #[.slice A n c, .int .i64 (n2 : Nat)] w fun e w' => e = .returned (.bool true) ∧ w' = w := by
  subst h2
  have HT := Lib.hid h
  clear h
  go_enter Try.func22, Try.ntmps22
  go_wp2_with fail
  go_loopw [6, 13] (fun _ v wr => ∃ i : Nat, v = .int .i64 (i : Nat) ∧ i ≤ n2 ∧ wr = w) (fun _ v _ => n2 - (intOf v).toNat)
  case atStart => exact ⟨0, rfl, Nat.zero_le _, rfl⟩
  case round =>
    obtain ⟨i, rfl, hin, rfl⟩ := hrel
    by_cases hlt : i < n2
    · obtain ⟨b, off, rfl, hr⟩ := HT.out (by omega)
      obtain ⟨K, o, cK, x1, x2, x3, -⟩ := hr i hlt
      clear hr
      go_wp2_with fail
      go_roundw
      case rel => exact ⟨i + 1, by simp, by omega, by first | rfl | trivial⟩
      case measure => (show n2 - (i + 1) < n2 - i; omega)
    · go_wp2_with fail
      go_ret
      exact ⟨rfl, rfl⟩
end Go.Proofs.Ytcpmcgbjmncalaa.Paths
