/-
  The walk of the landed reader's ahead. By an AI agent.
  The walk of the landed reader's braces. By an AI agent.
-/
import Derived.Test.YthcbgneoonekkaaGreatDoorGShowBack28
namespace Go.Proofs.YthcbgneoonekkaaGreatDoor.Parse
open Go.RowKit Go.Proofs.YthcbgneoonekkaaGreatDoor.Ints Go.Proofs.YthcbgneoonekkaaGreatDoor.Lex Go.Proofs.YthcbgneoonekkaaGreatDoor.Tree
attribute [local go_sem ↓] Go.wp_at_zero Go.wp_at_succ

theorem landSpanN (base g : Nat) (ts : List Tk) (σ : PS) (k : Nat) (w : World) (h : PMemE (Aw none) w base g ts σ) (hl : ts.length ≤ 5000) (hG : GoodT σ.rest) :
    Calls Tryz.prog 89 #[.pointer (some ⟨g, 0, none⟩), .int .i64 (k : Int)] w (fun e w' => match spanM k σ.rest with
      | .ok (lo, hi, r) => e = .returned (.tuple #[.agg #[.int .i64 lo, .int .i64 hi], .int .i64 0]) ∧ PMemE (Aw none) w' base g ts { σ with rest := r } ∧ Fr none base w w'
      | .error (c, p) => c = 2 ∧ e = .returned (.tuple #[.agg #[.int .i64 0, .int .i64 0], .int .i64 2]) ∧ (∃ q, GoodT q ∧ posOf q = p ∧ PMemE (Aw none) w' base g ts { σ with rest := q }) ∧ Fr none base w w') := by
  refine (landSpan base g ts σ k w (h.mono fun _ _ _ => trivial) hl hG).mono fun e w' => ?_
  unfold SpanGot
  cases spanM k σ.rest with
  | error x =>
    rintro ⟨h1, h2, q, h3, h4, h5, h6⟩
    exact ⟨h1, h2, ⟨q, h3, h4, h5.mono (fun _ _ _ e => by cases e)⟩, Fr.of_g h6 h.hg.1 h.base (fun e => by cases e)⟩
  | ok x =>
    rintro ⟨h1, h2, h3⟩
    exact ⟨h1, h2.mono (fun _ _ _ e => by cases e), Fr.of_g h3 h.hg.1 h.base (fun e => by cases e)⟩
theorem undrew {B : Nat} {a w : World} (h : Below B a.drew w) : Below B a w := ⟨h.os, h.tape, h.output, h.size, h.block⟩

set_option maxHeartbeats 16000000 in
set_option maxRecDepth 100000 in
theorem landAhead (base g M : Nat) (ts : List Tk) (σ : PS) (k : Nat) (w : World) (h : PMemE (Aw none) w base g ts σ) (hf : Fit M 0 σ) (hM : M ≤ 5000) (hl : ts.length ≤ 5000) (hk : k ≠ 0 → kindOf σ.rest ≠ 0) (hd : (topE σ.opn).depth ≤ 40) :
    Calls Tryz.prog 76 #[.pointer (some ⟨g, 0, none⟩), .int .i64 (k : Int)] w (StepGot base g ts w (aheadM k σ)) := by
  obtain ⟨i2, hi2, hv0, hv1, hv2⟩ := info_parts infoEnt
  have HM := Lib.hid h
  have HF := Lib.hid hf
  have HL := Lib.hid (And.intro hM hl)
  obtain ⟨t, r, hr, -, -, -, -⟩ := hf.toks.split
  have HR := Lib.hid hr
  obtain ⟨y, K, hy⟩ := hf.good.split
  have HY := Lib.hid hy
  have hKl : K.length ≤ 5000 := by have := hf.good.size; rw [hy, List.length_cons] at this; omega
  have HK := Lib.hid hKl
  rw [hy] at hd
  by_cases hk0 : k = 0
  · have HE := Lib.hid (show aheadM k σ = .error (2, posOf σ.rest) by unfold aheadM; rw [if_pos hk0])
    subst hk0
    clear h hf hM hl hk hr hy hKl hd
    go_enter Tryz.func76, Tryz.ntmps76
    go_wp2_with fail
    go_ret
    rw [HE.out]
    exact StepGot.bad (by decide) HF.out.toks rfl HM.out (Fr.refl _ _ _)
  · have hkb : ((k : Int) == 0) = false := beq_eq_false_iff_ne.2 (by omega)
    by_cases h40 : y.depth = 40
    · have HE := Lib.hid (show aheadM k σ = .error (3, posOf σ.rest) by unfold aheadM; rw [if_neg hk0, hy]; exact if_pos h40)
      have h4 : ((y.depth : Int) == 40) = true := by rw [h40]; rfl
      clear h hf hM hl hk hr hy hKl hd h40 hk0
      go_enter Tryz.func76, Tryz.ntmps76
      go_wp2_with fail
      refine (landDeep base g ts σ y K _ HM.out HY.out (by have := HK.out; omega)).mono ?_
      rintro e w1 ⟨rfl, hb1⟩
      have HB1 := Lib.hid hb1
      clear hb1
      go_wp2_with fail
      go_ret
      rw [HE.out]
      exact StepGot.bad (by decide) HF.out.toks rfl (HM.out.later HB1.out) (Fr.later HB1.out HM.out.base)
    · have h4 : ((y.depth : Int) == 40) = false := beq_eq_false_iff_ne.2 (by omega)
      have hd40 : (y.depth : Int) ≤ 40 := by have : y.depth ≤ 40 := hd; omega
      have hne : ¬ (topE σ.opn).depth = 40 := by rw [hy]; exact h40
      by_cases hm : σ.made = 200
      · have HE := Lib.hid (show aheadM k σ = .error (4, posOf σ.rest) by unfold aheadM; rw [if_neg hk0, if_neg hne, make_no hm])
        have HMD := Lib.hid hm
        clear h hf hM hl hk hr hy hKl hd h40 hk0 hne hm
        go_enter Tryz.func76, Tryz.ntmps76
        go_wp2_with fail
        refine (landDeep base g ts σ y K _ HM.out HY.out (by have := HK.out; omega)).mono ?_
        rintro e w1 ⟨rfl, hb1⟩
        have HB1 := Lib.hid hb1
        clear hb1
        go_wp2_with fail
        refine (landCreate0 base g ts σ _ (HM.out.later HB1.out) HMD.out).mono ?_
        rintro e w2 ⟨rfl, rfl⟩
        go_wp2_with fail
        go_ret
        rw [HE.out]
        exact StepGot.bad (by decide) HF.out.toks rfl (HM.out.later HB1.out) (Fr.later HB1.out HM.out.base)
      · have HGR := Lib.hid (show GoodT r by have := hf.toks.tail (hk hk0); rw [hr] at this; exact this)
        have HE := Lib.hid (show aheadM k σ = (match spanM k r with | .error e => .error e | .ok (lo, hi, q) => .ok (pushM ⟨k, lo, hi, 1, 5, [], false, y.depth + 1⟩ { σ with rest := q, made := σ.made + 1 })) by
          unfold aheadM; rw [if_neg hk0, if_neg hne, make_yes hm]; simp only; rw [hr, hy]; rfl)
        have HMD := Lib.hid (show σ.made < 200 by have := hf.made; omega)
        have q6 := fieldE6 y.kind y.lo y.hi y.kids y.level (Lex.bytes y.closer) y.reg y.depth
        rcases hs : spanM k r with ⟨c, p⟩ | ⟨lo, hi, q⟩
        · have HS := Lib.hid hs
          rw [hs] at HE
          clear h hf hM hl hk hr hy hKl hd h40 hk0 hne hm hs
          go_enter Tryz.func76, Tryz.ntmps76
          go_wp2_with fail
          refine (landDeep base g ts σ y K _ HM.out HY.out (by have := HK.out; omega)).mono ?_
          rintro e w1 ⟨rfl, hb1⟩
          have HB1 := Lib.hid hb1
          clear hb1
          go_wp2_with fail
          refine (landCreate1 base g ts σ _ (HM.out.later HB1.out) HMD.out).mono ?_
          rintro e w2 ⟨rfl, hm2, hg2⟩
          have hf2 := (Fr.later (bx := none) HB1.out HM.out.base).trans (Fr.of_g hg2 HM.out.hg.1 (Nat.le_trans HM.out.base HB1.out.size) (fun e => by cases e))
          obtain ⟨tv, ov, nv, rv, SN, hm2⟩ := hm2
          obtain ⟨j, hj⟩ : ∃ j, ts.length - σ.rest.length = j := ⟨_, rfl⟩
          have c1 := hm2.blk.cell 1 rfl
          have f1 := hm2.blk.fz 1 rfl
          rw [hj] at c1
          have hj5 : (j : Int) ≤ 5000 := by have := HL.out.2; omega
          have hj0 : (0 : Int) ≤ (j : Int) := by omega
          have HM3 := Lib.hid (hm2.next (σ := { σ with made := σ.made + 1 }) HR.out hj)
          have HF3 := Lib.hid (hf2.setCell (p := ⟨g, 1, none⟩) HM.out.hg.1 (fun e => by cases e) (.int .i64 ((j : Int) + 1)))
          clear hf2 hm2 hg2 hj
          go_wp2_with fail
          refine (landSpanN base g ts { σ with rest := r, made := σ.made + 1 } k _ ⟨_, _, _, _, _, HM3.out⟩ HL.out.2 HGR.out).mono ?_
          rw [show ({ σ with rest := r, made := σ.made + 1 } : PS).rest = r from rfl, HS.out]
          rintro e w4 ⟨hc, rfl, ⟨q, hq1, hq2, hm4⟩, hf4⟩
          have HM4 := Lib.hid hm4
          have HF4 := Lib.hid (HF3.out.trans hf4)
          have HQ := Lib.hid (And.intro hc (And.intro hq1 hq2))
          clear hc hq1 hq2 hm4 hf4
          go_wp2_with fail
          go_ret
          rw [HE.out]
          have hb5 := (Below.refl w4.heap.size w4).alloc (Nat.le_refl _) (.cells #[.int .i64 0, .int .i64 0] 40)
          refine ⟨by rw [HQ.out.1]; decide, by rw [HQ.out.1]; rfl, ⟨_, HQ.out.2.1, HQ.out.2.2, HM4.out.later hb5⟩, HF4.out.trans (Fr.later hb5 (Nat.le_trans HM.out.base HF4.out.below.size))⟩
        · have HS := Lib.hid hs
          have HSQ := Lib.hid (span_le hs)
          rw [hs] at HE
          clear h hf hM hl hk hr hy hKl hd h40 hk0 hne hm hs
          go_enter Tryz.func76, Tryz.ntmps76
          go_wp2_with fail
          refine (landDeep base g ts σ y K _ HM.out HY.out (by have := HK.out; omega)).mono ?_
          rintro e w1 ⟨rfl, hb1⟩
          have HB1 := Lib.hid hb1
          clear hb1
          go_wp2_with fail
          refine (landCreate1 base g ts σ _ (HM.out.later HB1.out) HMD.out).mono ?_
          rintro e w2 ⟨rfl, hm2, hg2⟩
          have hf2 := (Fr.later (bx := none) HB1.out HM.out.base).trans (Fr.of_g hg2 HM.out.hg.1 (Nat.le_trans HM.out.base HB1.out.size) (fun e => by cases e))
          obtain ⟨tv, ov, nv, rv, SN, hm2⟩ := hm2
          obtain ⟨j, hj⟩ : ∃ j, ts.length - σ.rest.length = j := ⟨_, rfl⟩
          have c1 := hm2.blk.cell 1 rfl
          have f1 := hm2.blk.fz 1 rfl
          rw [hj] at c1
          have hj5 : (j : Int) ≤ 5000 := by have := HL.out.2; omega
          have hj0 : (0 : Int) ≤ (j : Int) := by omega
          have HM3 := Lib.hid (hm2.next (σ := { σ with made := σ.made + 1 }) HR.out hj)
          have HF3 := Lib.hid (hf2.setCell (p := ⟨g, 1, none⟩) HM.out.hg.1 (fun e => by cases e) (.int .i64 ((j : Int) + 1)))
          clear hf2 hm2 hg2 hj
          go_wp2_with fail
          refine (landSpanN base g ts { σ with rest := r, made := σ.made + 1 } k _ ⟨_, _, _, _, _, HM3.out⟩ HL.out.2 HGR.out).mono ?_
          rw [show ({ σ with rest := r, made := σ.made + 1 } : PS).rest = r from rfl, HS.out]
          rintro e w4 ⟨rfl, hm4, hf4⟩
          clear c1 f1
          go_wp2_with fail
          have hb5 := (Below.refl w4.heap.size w4).alloc (Nat.le_refl _) (.cells #[.int .i64 lo, .int .i64 hi] 40)
          obtain ⟨tv5, ov5, nv5, rv5, SN5, hm5⟩ := hm4.later hb5
          have hf5 := (HF3.out.trans hf4).trans (Fr.later hb5 (Nat.le_trans HM.out.base (HF3.out.trans hf4).below.size))
          have hx5 := Blk.new w4 #[.int .i64 lo, .int .i64 hi] 40 _ rfl
          obtain ⟨V, hV⟩ : ∃ V, w4.alloc (.cells #[.int .i64 lo, .int .i64 hi] 40) = V := ⟨_, rfl⟩
          obtain ⟨B, hB⟩ : ∃ B, w4.heap.size = B := ⟨_, rfl⟩
          rw [hV] at hm5 hf5 hx5 ⊢
          rw [hB] at hx5 ⊢
          obtain ⟨q2, c, hov, hc, hmx, -⟩ := hm5.top (show ({ σ with rest := q, made := σ.made + 1 } : PS).opn = y :: K from HY.out)
          subst hov
          obtain ⟨m, hml⟩ : ∃ m, K.length = m := ⟨_, rfl⟩
          rw [hml] at hm5
          have HP := Lib.hid (show PushAt V none base g ts tv5 nv5 rv5 SN5 q2 m c { σ with rest := q, made := σ.made + 1 } ⟨k, lo, hi, 1, 5, [], false, y.depth + 1⟩ from ⟨hm5, by show σ.opn.length = m + 1; rw [HY.out, List.length_cons, hml], by rw [← hml]; exact HK.out, low_none _⟩)
          have HX5 := Lib.hid hx5
          have HF5 := Lib.hid hf5
          have z0 := hx5.cell 0 rfl
          have z1 := hx5.cell 1 rfl
          have e4 := hm5.blk.cell 4 rfl
          have hm1' : (m : Int) ≤ 5000 := by have := HK.out; omega
          have hwr : IntKind.i64.wrap ((y.depth : Int) + 1) = (y.depth : Int) + 1 := IntWalk.i64_in _ (by omega)
          have HTOP := Lib.hid (fun W (hW : Below V.heap.size V W) => landTop base g ts { σ with rest := q, made := σ.made + 1 } y K W ⟨_, _, _, _, _, hm5.later hW⟩ HY.out (by have := HK.out; omega))
          clear hm4 hf4 hb5 hm5 hf5 hx5 hV hB hc hmx hml
          go_wp2_with fail
          go_region_law
            (first
              | (refine step_append_lies (w := w7.alloc (.cells #[.int .i64 (k : Int), .int .i64 lo, .int .i64 hi, .int .i64 1, .int .i64 5, .string { data := #[] }, .bool false, .int .i64 ((y.depth : Int) + 1)] 69)) rfl (.tmp 37) (.tmp 45) 70 rfl base 69 i2 _ 8 72 Tryz.underlying70 hi2 hv0 hv1 hv2 rfl (by decide) (.slice (some ⟨q2, 0, none⟩) (m + 1) c) (m + 1) _ (by rfl) (HPW.out _).row ⟨w7.heap.size, 0, none⟩ 1 1 (cellsE ⟨k, lo, hi, 1, 5, [], false, y.depth + 1⟩) (by rfl) rfl (World.news_of_block (HNW.out)) (cellsE_one _) (by decide) (HPW.out (.cells #[] 3)).sm.1 (HPW.out (.cells #[] 3)).sm.2 (HPW.out _).mem.hb _ rfl ?_; intro q' cap w9 hown9 hgr9 hq9 hlt9; obtain ⟨k4, f4⟩ := (HPW.out _).at4 hgr9)
              | (go_simp; go_wp2_with (go_at_call 61; refine (HTOP.out _ (Below.refl _ _).drew).mono ?_; rintro e w7 ⟨rfl, hb7⟩; have hb8 := undrew hb7; have HPW := Lib.hid (fun o => HP.out.later (hb8.alloc hb8.size o)); have HNW := Lib.hid (heap_alloc_new w7 (.cells #[.int .i64 (k : Int), .int .i64 lo, .int .i64 hi, .int .i64 1, .int .i64 5, .string { data := #[] }, .bool false, .int .i64 ((y.depth : Int) + 1)] 69)); have HF7 := Lib.hid (HF5.out.trans (Fr.later hb8 (Nat.le_trans HM.out.base HF5.out.below.size))); have y4 := (HP.out.later hb8).mem.blk.cell 4 rfl; have a4 := fun o => ((HP.out.later hb8).mem.blk.alloc o).cell 4 rfl; have z0' := (HX5.out.later hb8).cell 0 rfl; have z1' := (HX5.out.later hb8).cell 1 rfl; clear hb7 hb8)))
          all_goals
            go_wp2_with fail
            go_ret
            obtain ⟨hd1, hd2⟩ := (HPW.out _).done hown9 hgr9 hq9
            rw [HE.out]
            exact ⟨rfl, hd1, (HF7.out.trans (Fr.later ((Below.refl _ _).alloc (Nat.le_refl _) _) (Nat.le_trans HM.out.base HF7.out.below.size))).trans hd2⟩
end Go.Proofs.YthcbgneoonekkaaGreatDoor.Parse

namespace Go.Proofs.YthcbgneoonekkaaGreatDoor.Parse
open Go.RowKit Go.Proofs.YthcbgneoonekkaaGreatDoor.Ints Go.Proofs.YthcbgneoonekkaaGreatDoor.Lex Go.Proofs.YthcbgneoonekkaaGreatDoor.Tree

theorem bytes_is (a b : List UInt8) : ((Lex.bytes a).toList == b) = decide (a = b) := by
  rw [ByteArray.toList_eq]
  show (a == b) = _
  rw [Bool.eq_iff_iff, beq_iff_eq, decide_eq_true_iff]
theorem StepGot.trans {base g : Nat} {ts : List Tk} {w w1 w' : World} {x : Except Fail PS} {e : Ending} (hf : Fr none base w w1) (h : StepGot base g ts w1 x e w') : StepGot base g ts w x e w' := by
  cases x with
  | ok τ => exact ⟨h.1, h.2.1, hf.trans h.2.2⟩
  | error y => exact ⟨h.1, h.2.1, h.2.2.1, hf.trans h.2.2.2⟩
theorem rest_ok {M e : Nat} {σ : PS} (h : Good M e σ) {q : List Tk} (hq : q.length ≤ σ.rest.length) (m : Nat) : Good M e { σ with rest := q, made := m } :=
  ⟨h.ents, h.bot, h.roots, h.need, by have := h.size; show σ.opn.length + σ.nodes.length + q.length ≤ M; omega⟩
theorem span_good {k : Nat} {r : List Tk} {lo hi : Int} {q : List Tk} (hG : GoodT r) (h : spanM k r = .ok (lo, hi, q)) : GoodT q := by
  unfold spanM at h
  split at h
  · cases h; exact hG
  · split at h
    · cases h; exact hG
    · next h91 =>
      have h91 : textOf r = [91] := Decidable.byContradiction h91
      have g1 := hG.next (by rw [h91]; decide)
      simp only at h
      split at h
      · cases h
      · next hk1 =>
        have hk1 : kindOf r.tail = 2 := Decidable.byContradiction hk1
        have g2 := g1.tail (by rw [hk1]; decide)
        split at h
        · cases h
        · next h44 =>
          have h44 : textOf r.tail.tail = [44] := Decidable.byContradiction h44
          have g3 := g2.next (by rw [h44]; decide)
          split at h
          · next h42 =>
            have g4 := g3.next (by rw [h42]; decide)
            split at h
            · cases h
            · next h93 =>
              have h93 := Decidable.byContradiction h93
              cases h
              exact g4.next (by rw [h93]; decide)
          · split at h
            · cases h
            · next hn3 =>
              have hk3 : kindOf r.tail.tail.tail = 2 := Decidable.byContradiction fun h => hn3 (Or.inl h)
              have g4 := g3.tail (by rw [hk3]; decide)
              split at h
              · cases h
              · next h93 =>
                have h93 := Decidable.byContradiction h93
                cases h
                exact g4.next (by rw [h93]; decide)

set_option maxHeartbeats 16000000 in
set_option maxRecDepth 100000 in
theorem landBraces (base g M : Nat) (ts : List Tk) (σ : PS) (k : Nat) (w : World) (h : PMemE (Aw none) w base g ts σ) (hf : Fit M 0 σ) (hM : M ≤ 5000) (hl : ts.length ≤ 5000) (hk : kindOf σ.rest ≠ 0) (hd : (topE σ.opn).depth ≤ 40) :
    Calls Tryz.prog 78 #[.pointer (some ⟨g, 0, none⟩), .int .i64 (k : Int)] w (StepGot base g ts w (bracesM k σ)) := by
  have HM := Lib.hid h
  have HF := Lib.hid hf
  have HL := Lib.hid (And.intro hM hl)
  obtain ⟨t, r, hr, -, -, -, -⟩ := hf.toks.split
  have HR := Lib.hid hr
  have HD := Lib.hid hd
  by_cases hm : σ.made = 200
  · have HE := Lib.hid (show bracesM k σ = .error (4, posOf σ.rest) by unfold bracesM; rw [make_no hm])
    have HMD := Lib.hid hm
    clear h hf hM hl hk hr hd hm
    go_enter Tryz.func78, Tryz.ntmps78
    go_wp2_with fail
    refine (landCreate0 base g ts σ _ HM.out HMD.out).mono ?_
    rintro e w2 ⟨rfl, rfl⟩
    go_wp2_with fail
    go_ret
    rw [HE.out]
    exact StepGot.bad (by decide) HF.out.toks rfl HM.out (Fr.refl _ _ _)
  · have HGR := Lib.hid (show GoodT r by have := hf.toks.tail hk; rw [hr] at this; exact this)
    have HE := Lib.hid (show bracesM k σ = (match spanM k r with | .error e => .error e | .ok (lo, hi, q) => if textOf q ≠ [123] then .error (2, posOf q) else bracketM ⟨k, lo, hi, 1, 0, [125], true, 0⟩ { σ with rest := q, made := σ.made + 1 }) by
      unfold bracesM; rw [make_yes hm]; simp only; rw [hr]; rfl)
    have HMD := Lib.hid (show σ.made < 200 by have := hf.made; omega)
    rcases hs : spanM k r with ⟨c, p⟩ | ⟨lo, hi, q⟩
    · have HS := Lib.hid hs
      rw [hs] at HE
      clear h hf hM hl hk hr hd hm hs
      go_enter Tryz.func78, Tryz.ntmps78
      go_wp2_with fail
      refine (landCreate1 base g ts σ _ HM.out HMD.out).mono ?_
      rintro e w2 ⟨rfl, hm2, hg2⟩
      have hf2 := Fr.of_g (bx := none) hg2 HM.out.hg.1 HM.out.base (fun e => by cases e)
      obtain ⟨tv, ov, nv, rv, SN, hm2⟩ := hm2
      obtain ⟨j, hj⟩ : ∃ j, ts.length - σ.rest.length = j := ⟨_, rfl⟩
      have c1 := hm2.blk.cell 1 rfl
      have f1 := hm2.blk.fz 1 rfl
      rw [hj] at c1
      have hj5 : (j : Int) ≤ 5000 := by have := HL.out.2; omega
      have hj0 : (0 : Int) ≤ (j : Int) := by omega
      have HM3 := Lib.hid (hm2.next (σ := { σ with made := σ.made + 1 }) HR.out hj)
      have HF3 := Lib.hid (hf2.setCell (p := ⟨g, 1, none⟩) HM.out.hg.1 (fun e => by cases e) (.int .i64 ((j : Int) + 1)))
      clear hf2 hm2 hg2 hj
      go_wp2_with fail
      refine (landSpanN base g ts { σ with rest := r, made := σ.made + 1 } k _ ⟨_, _, _, _, _, HM3.out⟩ HL.out.2 HGR.out).mono ?_
      rw [show ({ σ with rest := r, made := σ.made + 1 } : PS).rest = r from rfl, HS.out]
      rintro e w4 ⟨hc, rfl, ⟨q, hq1, hq2, hm4⟩, hf4⟩
      have HM4 := Lib.hid hm4
      have HF4 := Lib.hid (HF3.out.trans hf4)
      have HQ := Lib.hid (And.intro hc (And.intro hq1 hq2))
      clear hc hq1 hq2 hm4 hf4
      go_wp2_with fail
      go_ret
      rw [HE.out]
      have hb5 := (Below.refl w4.heap.size w4).alloc (Nat.le_refl _) (.cells #[.int .i64 0, .int .i64 0] 40)
      refine ⟨by rw [HQ.out.1]; decide, by rw [HQ.out.1]; rfl, ⟨_, HQ.out.2.1, HQ.out.2.2, HM4.out.later hb5⟩, HF4.out.trans (Fr.later hb5 (Nat.le_trans HM.out.base HF4.out.below.size))⟩
    · have HS := Lib.hid hs
      rw [hs] at HE
      obtain ⟨t2, r2, hq, -, -, -, -⟩ := (span_good HGR.out hs).split
      have HQ := Lib.hid hq
      have HGQ := Lib.hid (span_good HGR.out hs)
      have HSL := Lib.hid (show q.length ≤ σ.rest.length by have := (span_le hs).length_le; rw [hr, List.length_cons]; omega)
      have q1 := fieldT1 t2.kind (Lex.bytes t2.text) t2.num t2.pos
      have hcmp := bytes_is t2.text [123]
      obtain ⟨z, hz⟩ : ∃ z, Lex.bytes t2.text = z := ⟨_, rfl⟩
      rw [hz] at hcmp q1
      have HZ := Lib.hid hz
      by_cases h123 : t2.text = [123]
      all_goals
        first
          | rw [decide_eq_true h123] at hcmp
          | rw [decide_eq_false h123] at hcmp
        have HT := Lib.hid h123
        clear h hf hM hl hk hr hd hm hs hq hz h123
        go_enter Tryz.func78, Tryz.ntmps78
        go_wp2_with fail
        refine (landCreate1 base g ts σ _ HM.out HMD.out).mono ?_
        rintro e w2 ⟨rfl, hm2, hg2⟩
        have hf2 := Fr.of_g (bx := none) hg2 HM.out.hg.1 HM.out.base (fun e => by cases e)
        obtain ⟨tv, ov, nv, rv, SN, hm2⟩ := hm2
        obtain ⟨j, hj⟩ : ∃ j, ts.length - σ.rest.length = j := ⟨_, rfl⟩
        have c1 := hm2.blk.cell 1 rfl
        have f1 := hm2.blk.fz 1 rfl
        rw [hj] at c1
        have hj5 : (j : Int) ≤ 5000 := by have := HL.out.2; omega
        have hj0 : (0 : Int) ≤ (j : Int) := by omega
        have HM3 := Lib.hid (hm2.next (σ := { σ with made := σ.made + 1 }) HR.out hj)
        have HF3 := Lib.hid (hf2.setCell (p := ⟨g, 1, none⟩) HM.out.hg.1 (fun e => by cases e) (.int .i64 ((j : Int) + 1)))
        clear hf2 hm2 hg2 hj
        go_wp2_with fail
        refine (landSpanN base g ts { σ with rest := r, made := σ.made + 1 } k _ ⟨_, _, _, _, _, HM3.out⟩ HL.out.2 HGR.out).mono ?_
        rw [show ({ σ with rest := r, made := σ.made + 1 } : PS).rest = r from rfl, HS.out]
        rintro e w4 ⟨rfl, hm4, hf4⟩
        have HM4 := Lib.hid hm4
        have HF4 := Lib.hid (HF3.out.trans hf4)
        clear hm4 hf4 c1 f1
        go_wp2_with fail
        have hb5 := (Below.refl w4.heap.size w4).alloc (Nat.le_refl _) (.cells #[.int .i64 lo, .int .i64 hi] 40)
        have HM5 := Lib.hid (HM4.out.later hb5)
        have HF5 := Lib.hid (HF4.out.trans (Fr.later hb5 (Nat.le_trans HM.out.base HF4.out.below.size)))
        have HX5 := Lib.hid (Blk.new w4 #[.int .i64 lo, .int .i64 hi] 40 _ rfl)
        clear hb5
        have htok := landTok base g ts { σ with rest := q, made := σ.made + 1 } t2 r2 _ HM5.out HQ.out HL.out.2
        rw [HZ.out] at htok
        refine htok.mono ?_
        rintro e w6 ⟨rfl, hb6⟩
        have HM6 := Lib.hid (HM5.out.later hb6)
        have HF6 := Lib.hid (HF5.out.trans (Fr.later hb6 (Nat.le_trans HM.out.base HF5.out.below.size)))
        have z0 := (HX5.out.later hb6).cell 0 rfl
        have z1 := (HX5.out.later hb6).cell 1 rfl
        clear hb6 htok
        go_wp2_with fail
      · refine (landBracket base g M ts { σ with rest := q, made := σ.made + 1 } ⟨k, lo, hi, 1, 0, [125], true, 0⟩ _ HM6.out ⟨rest_ok HF.out.good HSL.out _, HGQ.out, HMD.out⟩ HL.out.1 HL.out.2 (kind_end HGQ.out.allOk (by rw [HQ.out]; show t2.text ≠ []; rw [HT.out]; decide)) HD.out).mono ?_
        intro e w7 h7
        obtain ⟨v, hv⟩ : ∃ v, e = .returned v := by
          cases hx : bracketM ⟨k, lo, hi, 1, 0, [125], true, 0⟩ { σ with rest := q, made := σ.made + 1 } with
          | ok τ => rw [hx] at h7; exact ⟨_, h7.1⟩
          | error y => rw [hx] at h7; exact ⟨_, h7.2.1⟩
        subst hv
        have H7 := Lib.hid (h7.trans HF6.out)
        clear h7
        go_wp2_with fail
        go_ret
        rw [HE.out]
        simp only
        rw [if_neg (fun h => h (by rw [HQ.out]; exact HT.out))]
        exact H7.out
      · go_ret
        rw [HE.out]
        simp only
        rw [if_pos (by rw [HQ.out]; exact HT.out)]
        exact StepGot.bad (by decide) HGQ.out rfl HM6.out HF6.out
end Go.Proofs.YthcbgneoonekkaaGreatDoor.Parse
