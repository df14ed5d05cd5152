/-
  The walk of the reference's emit. The walk of the reference's span.
  Made of several texts by wip/tools/mergetpl.py. By an AI agent.
-/
import Derived.Test.YtbehlceacgaebaaParseRMake2
import Derived.Test.YtbehlceacgaebaaParsePut

/- The walk of the reference's emit. By an AI agent. -/
namespace Go.Proofs.Ytbehlceacgaebaa.Parse
open Go.RowKit Go.Proofs.Ytbehlceacgaebaa.Ints Go.Proofs.Ytbehlceacgaebaa.Lex Go.Proofs.Ytbehlceacgaebaa.Tree
attribute [local go_sem ↓] Go.wp_at_zero Go.wp_at_succ

set_option maxHeartbeats 8000000 in
set_option maxRecDepth 100000 in
/-- emit: a node whose kids' row is newer than the reader's last change. -/
theorem refEmit {Pr : Nat → Prop} (base g : Nat) (ts : List Tk) (σ : RS) (n : Nd) (A : Option Addr) (k c : Nat) (w0 w : World) (h0 : RMemE Pr w0 base g ts σ) (hlow : Lw Pr w0) (hbw : Below w0.heap.size w0 w)
    (hlen : n.kids.length = k) (hn : NodeOk w n A c) (hA : ∀ a, A = some a → w0.heap.size ≤ a.block ∧ a.block < w.heap.size) (hN : σ.nodes.length ≤ 100000) :
    Calls Try.prog 34 #[.pointer (some ⟨g, 0, none⟩), .agg #[.int .i64 n.kind, .string n.name, .int .i64 n.lo, .int .i64 n.hi, .slice A k c]] w fun e w' => e = .returned (.int .i64 (σ.nodes.length : Int)) ∧ RMemE Pr w' base g ts { σ with nodes := σ.nodes ++ [n] } ∧ Fp Pr base w w' := by
  obtain ⟨i1, hi1, hy0, hy1, hy2⟩ := info_parts infoNode
  obtain ⟨tv, lv, SN, h0⟩ := h0
  obtain ⟨B, d, rfl, hd1, hd2, hd3, hd4⟩ := own_sliceN h0.nds.1
  have hSN : SN.length = σ.nodes.length := by rw [← h0.ndl, List.length_map]
  obtain ⟨N, hNl⟩ : ∃ N, σ.nodes.length = N := ⟨_, rfl⟩
  rw [hNl] at hSN hN
  rw [hSN] at h0 hd1
  have hN5 : (N : Int) ≤ 100000 := by omega
  have hN0 : (0 : Int) ≤ (N : Int) := by omega
  have hm := h0.later hbw
  have HX := Lib.hid ((Below.refl w.heap.size w).alloc (Nat.le_refl _) (.cells #[.int .i64 n.kind, .string n.name, .int .i64 n.lo, .int .i64 n.hi, .slice A k c] 33))
  have hB := Blk.new w #[.int .i64 n.kind, .string n.name, .int .i64 n.lo, .int .i64 n.hi, .slice A k c] 33 _ rfl
  obtain ⟨W, hW⟩ : ∃ W, w.alloc (.cells #[.int .i64 n.kind, .string n.name, .int .i64 n.lo, .int .i64 n.hi, .slice A k c] 33) = W := ⟨_, rfl⟩
  have HW := Lib.hid hW
  rw [hW] at HX hB
  have hm1 := hm.later HX.out
  have hmx := hm1.later (((Below.refl _ _).alloc (Nat.le_refl _) (.cells #[.int .i64 n.kind, .string n.name, .int .i64 n.lo, .int .i64 n.hi, .slice A k c] 33)).drew)
  have HM0 := Lib.hid h0
  have HM := Lib.hid hm
  have HMX := Lib.hid hmx
  have HLO := Lib.hid hlow
  have HNO := Lib.hid hn
  have HA := Lib.hid hA
  have HLE := Lib.hid hlen
  have HSN := Lib.hid hSN
  have HNL := Lib.hid hNl
  have HBW := Lib.hid hbw
  have HSM5 := Lib.hid (show N + 1 ≤ maxLen ∧ (N + 1) * 64 ≤ 140737488355328 by have : maxLen = 9223372036854775807 := rfl; omega)
  have HNX := Lib.hid (show (W.alloc (.cells #[.int .i64 n.kind, .string n.name, .int .i64 n.lo, .int .i64 n.hi, .slice A k c] 33)).drew.heap[W.heap.size]? = some (.cells #[.int .i64 n.kind, .string n.name, .int .i64 n.lo, .int .i64 n.hi, .slice A k c] 33 (0, 0)) from heap_alloc_new W _)
  have HNR := Lib.hid (show (W.alloc (.cells #[.int .i64 n.kind, .string n.name, .int .i64 n.lo, .int .i64 n.hi, .slice A k c] 33)).drew.ownsRow base 33 5 (.slice B N d) N (rowS SN) by have := hmx.nds.1; rw [hSN] at this; exact this)
  have e2 := hm1.blk.cell 2 rfl
  have a2 := fun o => (hm1.blk.alloc o).cell 2 rfl
  have x0 := hB.cell 0 rfl
  have x1 := hB.cell 1 rfl
  have x2 := hB.cell 2 rfl
  have x3 := hB.cell 3 rfl
  have x4 := hB.cell 4 rfl
  clear h0 hlow hbw hlen hn hA hN hSN hm hm1 hmx hNl hB hd1 hd2 hd3 hd4
  go_enter Try.func34, Try.ntmps34
  go_wp2_with fail
  clear hW
  go_region_law
    (first
      | (refine step_append_lies (w := (W.alloc (.cells #[.int .i64 n.kind, .string n.name, .int .i64 n.lo, .int .i64 n.hi, .slice A k c] 33)).drew) rfl (.tmp 9) (.tmp 11) 24 rfl base 33 i1 _ 5 64 Try.underlying24 hi1 hy0 hy1 hy2 rfl (by decide) (.slice B N d) N _ (by rfl) HNR.out ⟨W.heap.size, 0, none⟩ 1 1 [.int .i64 n.kind, .string n.name, .int .i64 n.lo, .int .i64 n.hi, .slice A k c] (by rfl) rfl (World.news_of_block (HNX.out)) (one_cells n A k c) (by decide) HSM5.out.1 HSM5.out.2 HMX.out.hb _ rfl ?_; intro q2 cap2 w5 hown5 hgr5 hq5 hlt5; have k2 := (HMX.out.blk.grown hgr5 (fun e => HMX.out.lg e.symm)).cell 2 rfl; have y2 := (HMX.out.blk.grown hgr5 (fun e => HMX.out.lg e.symm)).fz 2 rfl))
  all_goals
    go_wp2_with fail
    have hXX : Below w.heap.size w (W.alloc (.cells #[.int .i64 n.kind, .string n.name, .int .i64 n.lo, .int .i64 n.hi, .slice A k c] 33)).drew := (HX.out.alloc HX.out.size (.cells #[.int .i64 n.kind, .string n.name, .int .i64 n.lo, .int .i64 n.hi, .slice A k c] 33)).drew
    have hkok : KidOk (fun b => (b ≠ g ∧ ¬ Pr b) ∧ some b ≠ (Value.slice B N d).ownBlock) (W.alloc (.cells #[.int .i64 n.kind, .string n.name, .int .i64 n.lo, .int .i64 n.hi, .slice A k c] 33)).drew (n, A, c) := by
      refine KidOk.below (w := w) ⟨HNO.out, fun a ha _ => ?_⟩ hXX
      have h1 := HA.out a ha
      have h2 := HM0.out.blk.1
      exact ⟨⟨fun e => by omega, fun e => by have := HLO.out _ e; omega⟩, fun e => by have := (HM0.out.nds.1.lt _ e.symm).2; omega⟩
    have hlen1 : (SN ++ [((n, A, c) : SNd)]).length = N + 1 := by rw [List.length_append, HSN.out]; rfl
    have hgrow := own_grown (S := fun b => b ≠ g ∧ ¬ Pr b) (v' := .slice (some ⟨q2, 0, none⟩) (N + 1) cap2) (τ := [((n, A, c) : SNd)]) (fun s hs => HMX.out.nds.2 s hs) (fun s hs => by rw [List.mem_singleton.1 hs]; exact hkok) (by
      rw [rowS_append, hlen1]
      have e : rowS [((n, A, c) : SNd)] = [.int .i64 n.kind, .string n.name, .int .i64 n.lo, .int .i64 n.hi, .slice A k c] := by
        simp only [rowS, List.flatMap_cons, List.flatMap_nil, List.append_nil, cellsS]
        rw [HLE.out]
      rw [e]
      exact hown5) hgr5 (hq5.elim (fun h => Or.inl (by rw [h]; rfl)) (fun h => Or.inr (by rw [h]; rfl)))
    have hfin := HMX.out.node (HLO.out.mono (Nat.le_trans HBW.out.size hXX.size)) ((n, A, c) : SNd) (q := q2) (cap := cap2) (by rw [hlen1]; exact hgrow) hgr5 hq5
    rw [hlen1] at hfin
    have hfp : Fp Pr base w (w5.setCell ⟨g, 2, none⟩ (.slice (some ⟨q2, 0, none⟩) (N + 1) cap2)) :=
      ((Fp.later hXX HM.out.hb).grown hgr5 (Nat.le_trans HM.out.hb hXX.size) (fun b hb => (HMX.out.nds.1.lt b hb).1) (fun b hb => HMX.out.sl b hb)).setCell (p := ⟨g, 2, none⟩) HM.out.hg HM.out.sg _
    refine bodyPost_ret (v := .int .i64 (N : Int)) (by simp [results, Try.results34, go_sem]) rfl ?_
    rw [HNL.out]
    exact ⟨rfl, ⟨_, _, _, hfin⟩, hfp⟩
end Go.Proofs.Ytbehlceacgaebaa.Parse

/- The walk of the reference's span. By an AI agent. -/
namespace Go.Proofs.Ytbehlceacgaebaa.Parse
open Go.RowKit Go.Proofs.Ytbehlceacgaebaa.Ints Go.Proofs.Ytbehlceacgaebaa.Lex Go.Proofs.Ytbehlceacgaebaa.Tree

set_option maxHeartbeats 4000000 in
/-- Behind an error span reads nothing. -/
theorem refSpanN {Pr : Nat → Prop} (base g : Nat) (ts : List Tk) (σ : RS) (w : World) (h : RMemE Pr w base g ts σ) (he : σ.err ≠ 0) :
    Calls Try.prog 65 #[.pointer (some ⟨g, 0, none⟩)] w fun e w' => e = .returned (.agg #[.int .i64 0, .int .i64 (-1)]) ∧ Below w.heap.size w w' := by
  have HB := Lib.hid (((Below.refl w.heap.size w).alloc (Nat.le_refl _) (.cells #[.int .i64 0, .int .i64 0] 30)).alloc (by simp) (.cells #[.int .i64 0, .int .i64 (-1)] 30))
  have HM := Lib.hid (h.later HB.out)
  have h0 := (Blk.new w #[.int .i64 0, .int .i64 0] 30 _ rfl).alloc (.cells #[.int .i64 0, .int .i64 (-1)] 30)
  have h1 : Blk ((w.alloc (.cells #[.int .i64 0, .int .i64 0] 30)).alloc (.cells #[.int .i64 0, .int .i64 (-1)] 30)) (w.heap.size + 1) [.int .i64 0, .int .i64 (-1)] := by
    have := Blk.new (w.alloc (.cells #[.int .i64 0, .int .i64 0] 30)) #[.int .i64 0, .int .i64 (-1)] 30 _ rfl
    simpa using this
  have H0 := Lib.hid h0
  have H1 := Lib.hid h1
  have HE := Lib.hid he
  clear h he h0 h1
  go_enter Try.func65, Try.ntmps65
  go_wp2_with fail
  refine (refSeesN base g ts σ 3 [91] _ HM.out HE.out).mono ?_
  rintro e w1 ⟨rfl, hb⟩
  have hb0 := H0.out.later hb
  have hb1 := H1.out.later hb
  have c0 := hb1.cell 0 rfl
  have c1 := hb1.cell 1 rfl
  have r0 := hb0.cell 0 rfl
  have r1 := hb0.cell 1 rfl
  have f0 := hb0.fz 0 rfl
  have f1 := hb0.fz 1 rfl
  have HB1 := Lib.hid hb
  clear hb hb0 hb1
  go_wp2_with fail
  have b0 := ((H0.out.later HB1.out).set 0 (.int .i64 0) (by simp)).set 1 (.int .i64 (-1)) (by simp)
  have d0 := b0.cell 0 rfl
  have d1 := b0.cell 1 rfl
  refine bodyPost_ret (v := .agg #[.int .i64 0, .int .i64 (-1)]) (by simp [results, Try.results65, go_sem, d0, d1]) rfl ?_
  exact ⟨rfl, ((HB.out.trans (HB1.out.mono HB.out.size)).setCell (p := ⟨w.heap.size, 0, none⟩) (Nat.le_refl _) _).setCell (p := ⟨w.heap.size, 1, none⟩) (Nat.le_refl _) _⟩
set_option maxHeartbeats 4000000 in
/-- No bracket: span reads nothing. -/
theorem refSpan0 {Pr : Nat → Prop} (base g : Nat) (ts : List Tk) (σ : RS) (t : Tk) (r : List Tk) (w : World) (h : RMemE Pr w base g ts σ) (he : σ.err = 0) (hr : σ.rest = t :: r) (hl : ts.length ≤ 5000) (hno : ¬ (t.kind = 3 ∧ t.text = [91])) :
    Calls Try.prog 65 #[.pointer (some ⟨g, 0, none⟩)] w fun e w' => e = .returned (.agg #[.int .i64 0, .int .i64 (-1)]) ∧ Below w.heap.size w w' := by
  have HB := Lib.hid (((Below.refl w.heap.size w).alloc (Nat.le_refl _) (.cells #[.int .i64 0, .int .i64 0] 30)).alloc (by simp) (.cells #[.int .i64 0, .int .i64 (-1)] 30))
  have HM := Lib.hid (h.later HB.out)
  have h0 := (Blk.new w #[.int .i64 0, .int .i64 0] 30 _ rfl).alloc (.cells #[.int .i64 0, .int .i64 (-1)] 30)
  have h1 : Blk ((w.alloc (.cells #[.int .i64 0, .int .i64 0] 30)).alloc (.cells #[.int .i64 0, .int .i64 (-1)] 30)) (w.heap.size + 1) [.int .i64 0, .int .i64 (-1)] := by
    have := Blk.new (w.alloc (.cells #[.int .i64 0, .int .i64 0] 30)) #[.int .i64 0, .int .i64 (-1)] 30 _ rfl
    simpa using this
  have H0 := Lib.hid h0
  have H1 := Lib.hid h1
  have HS := Lib.hid (refSees base g ts σ t r 3 [91] _ HM.out he hr hl)
  rw [show (decide (t.kind = 3) && decide (t.text = [91])) = false by rw [← Bool.decide_and]; exact decide_eq_false hno] at HS
  clear h he hr hl hno h0 h1
  go_enter Try.func65, Try.ntmps65
  go_wp2_with fail
  refine HS.out.mono ?_
  rintro e w1 ⟨rfl, hb⟩
  have hb0 := H0.out.later hb
  have hb1 := H1.out.later hb
  have c0 := hb1.cell 0 rfl
  have c1 := hb1.cell 1 rfl
  have r0 := hb0.cell 0 rfl
  have r1 := hb0.cell 1 rfl
  have f0 := hb0.fz 0 rfl
  have f1 := hb0.fz 1 rfl
  have HB1 := Lib.hid hb
  clear hb hb0 hb1
  go_wp2_with fail
  have b0 := ((H0.out.later HB1.out).set 0 (.int .i64 0) (by simp)).set 1 (.int .i64 (-1)) (by simp)
  have d0 := b0.cell 0 rfl
  have d1 := b0.cell 1 rfl
  refine bodyPost_ret (v := .agg #[.int .i64 0, .int .i64 (-1)]) (by simp [results, Try.results65, go_sem, d0, d1]) rfl ?_
  exact ⟨rfl, ((HB.out.trans (HB1.out.mono HB.out.size)).setCell (p := ⟨w.heap.size, 0, none⟩) (Nat.le_refl _) _).setCell (p := ⟨w.heap.size, 1, none⟩) (Nat.le_refl _) _⟩
end Go.Proofs.Ytbehlceacgaebaa.Parse
