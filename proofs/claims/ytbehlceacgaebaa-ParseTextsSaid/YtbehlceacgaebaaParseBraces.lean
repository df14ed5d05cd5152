/-
  The walk of the landed reader's braces. By an AI agent.
-/
import Derived.Test.YtbehlceacgaebaaParseAhead
namespace Go.Proofs.Ytbehlceacgaebaa.Parse
open Go.RowKit Go.Proofs.Ytbehlceacgaebaa.Ints Go.Proofs.Ytbehlceacgaebaa.Lex Go.Proofs.Ytbehlceacgaebaa.Tree

theorem bytes_is (a b : List UInt8) : ((Lex.bytes a).toList == b) = decide (a = b) := by
  rw [ByteArray.toList_eq]
  show (a == b) = _
  rw [Bool.eq_iff_iff, beq_iff_eq, decide_eq_true_iff]
theorem StepGot.trans {base g : Nat} {ts : List Tk} {w w1 w' : World} {x : Except Fail PS} {e : Ending} (hf : Fr none base w w1) (h : StepGot base g ts w1 x e w') : StepGot base g ts w x e w' := by
  cases x with
  | ok τ => exact ⟨h.1, h.2.1, hf.trans h.2.2⟩
  | error y => exact ⟨h.1, h.2.1, h.2.2.1, hf.trans h.2.2.2⟩
theorem rest_ok {M e : Nat} {σ : PS} (h : Good M e σ) {q : List Tk} (hq : q.length ≤ σ.rest.length) (m : Nat) : Good M e { σ with rest := q, made := m } :=
  ⟨h.ents, h.bot, h.roots, h.need, by have := h.size; show σ.opn.length + σ.nodes.length + q.length ≤ M; omega⟩
theorem span_good {k : Nat} {r : List Tk} {lo hi : Int} {q : List Tk} (hG : GoodT r) (h : spanM k r = .ok (lo, hi, q)) : GoodT q := by
  unfold spanM at h
  split at h
  · cases h; exact hG
  · split at h
    · cases h; exact hG
    · next h91 =>
      have h91 : textOf r = [91] := Decidable.byContradiction h91
      have g1 := hG.next (by rw [h91]; decide)
      simp only at h
      split at h
      · cases h
      · next hk1 =>
        have hk1 : kindOf r.tail = 2 := Decidable.byContradiction hk1
        have g2 := g1.tail (by rw [hk1]; decide)
        split at h
        · cases h
        · next h44 =>
          have h44 : textOf r.tail.tail = [44] := Decidable.byContradiction h44
          have g3 := g2.next (by rw [h44]; decide)
          split at h
          · next h42 =>
            have g4 := g3.next (by rw [h42]; decide)
            split at h
            · cases h
            · next h93 =>
              have h93 := Decidable.byContradiction h93
              cases h
              exact g4.next (by rw [h93]; decide)
          · split at h
            · cases h
            · next hn3 =>
              have hk3 : kindOf r.tail.tail.tail = 2 := Decidable.byContradiction fun h => hn3 (Or.inl h)
              have g4 := g3.tail (by rw [hk3]; decide)
              split at h
              · cases h
              · next h93 =>
                have h93 := Decidable.byContradiction h93
                cases h
                exact g4.next (by rw [h93]; decide)

set_option maxHeartbeats 16000000 in
set_option maxRecDepth 100000 in
theorem landBraces (base g M : Nat) (ts : List Tk) (σ : PS) (k : Nat) (w : World) (h : PMemE (Aw none) w base g ts σ) (hf : Fit M 0 σ) (hM : M ≤ 5000) (hl : ts.length ≤ 5000) (hk : kindOf σ.rest ≠ 0) (hd : (topE σ.opn).depth ≤ 40) :
    Calls Try.prog 61 #[.pointer (some ⟨g, 0, none⟩), .int .i64 (k : Int)] w (StepGot base g ts w (bracesM k σ)) := by
  have HM := Lib.hid h
  have HF := Lib.hid hf
  have HL := Lib.hid (And.intro hM hl)
  obtain ⟨t, r, hr, -, -, -, -⟩ := hf.toks.split
  have HR := Lib.hid hr
  have HD := Lib.hid hd
  by_cases hm : σ.made = 200
  · have HE := Lib.hid (show bracesM k σ = .error (4, posOf σ.rest) by unfold bracesM; rw [make_no hm])
    have HMD := Lib.hid hm
    clear h hf hM hl hk hr hd hm
    go_enter Try.func61, Try.ntmps61
    go_wp2_with fail
    refine (landCreate0 base g ts σ _ HM.out HMD.out).mono ?_
    rintro e w2 ⟨rfl, rfl⟩
    go_wp2_with fail
    go_ret
    rw [HE.out]
    exact StepGot.bad (by decide) HF.out.toks rfl HM.out (Fr.refl _ _ _)
  · have HGR := Lib.hid (show GoodT r by have := hf.toks.tail hk; rw [hr] at this; exact this)
    have HE := Lib.hid (show bracesM k σ = (match spanM k r with | .error e => .error e | .ok (lo, hi, q) => if textOf q ≠ [123] then .error (2, posOf q) else bracketM ⟨k, lo, hi, 1, 0, [125], true, 0⟩ { σ with rest := q, made := σ.made + 1 }) by
      unfold bracesM; rw [make_yes hm]; simp only; rw [hr]; rfl)
    have HMD := Lib.hid (show σ.made < 200 by have := hf.made; omega)
    rcases hs : spanM k r with ⟨c, p⟩ | ⟨lo, hi, q⟩
    · have HS := Lib.hid hs
      rw [hs] at HE
      clear h hf hM hl hk hr hd hm hs
      go_enter Try.func61, Try.ntmps61
      go_wp2_with fail
      refine (landCreate1 base g ts σ _ HM.out HMD.out).mono ?_
      rintro e w2 ⟨rfl, hm2, hg2⟩
      have hf2 := Fr.of_g (bx := none) hg2 HM.out.hg.1 HM.out.base (fun e => by cases e)
      obtain ⟨tv, ov, nv, rv, SN, hm2⟩ := hm2
      obtain ⟨j, hj⟩ : ∃ j, ts.length - σ.rest.length = j := ⟨_, rfl⟩
      have c1 := hm2.blk.cell 1 rfl
      have f1 := hm2.blk.fz 1 rfl
      rw [hj] at c1
      have hj5 : (j : Int) ≤ 5000 := by have := HL.out.2; omega
      have hj0 : (0 : Int) ≤ (j : Int) := by omega
      have HM3 := Lib.hid (hm2.next (σ := { σ with made := σ.made + 1 }) HR.out hj)
      have HF3 := Lib.hid (hf2.setCell (p := ⟨g, 1, none⟩) HM.out.hg.1 (fun e => by cases e) (.int .i64 ((j : Int) + 1)))
      clear hf2 hm2 hg2 hj
      go_wp2_with fail
      refine (landSpanN base g ts { σ with rest := r, made := σ.made + 1 } k _ ⟨_, _, _, _, _, HM3.out⟩ HL.out.2 HGR.out).mono ?_
      rw [show ({ σ with rest := r, made := σ.made + 1 } : PS).rest = r from rfl, HS.out]
      rintro e w4 ⟨hc, rfl, ⟨q, hq1, hq2, hm4⟩, hf4⟩
      have HM4 := Lib.hid hm4
      have HF4 := Lib.hid (HF3.out.trans hf4)
      have HQ := Lib.hid (And.intro hc (And.intro hq1 hq2))
      clear hc hq1 hq2 hm4 hf4
      go_wp2_with fail
      go_ret
      rw [HE.out]
      have hb5 := (Below.refl w4.heap.size w4).alloc (Nat.le_refl _) (.cells #[.int .i64 0, .int .i64 0] 30)
      refine ⟨by rw [HQ.out.1]; decide, by rw [HQ.out.1]; rfl, ⟨_, HQ.out.2.1, HQ.out.2.2, HM4.out.later hb5⟩, HF4.out.trans (Fr.later hb5 (Nat.le_trans HM.out.base HF4.out.below.size))⟩
    · have HS := Lib.hid hs
      rw [hs] at HE
      obtain ⟨t2, r2, hq, -, -, -, -⟩ := (span_good HGR.out hs).split
      have HQ := Lib.hid hq
      have HGQ := Lib.hid (span_good HGR.out hs)
      have HSL := Lib.hid (show q.length ≤ σ.rest.length by have := (span_le hs).length_le; rw [hr, List.length_cons]; omega)
      have q1 := fieldT1 t2.kind (Lex.bytes t2.text) t2.num t2.pos
      have hcmp := bytes_is t2.text [123]
      obtain ⟨z, hz⟩ : ∃ z, Lex.bytes t2.text = z := ⟨_, rfl⟩
      rw [hz] at hcmp q1
      have HZ := Lib.hid hz
      by_cases h123 : t2.text = [123]
      all_goals
        first
          | rw [decide_eq_true h123] at hcmp
          | rw [decide_eq_false h123] at hcmp
        have HT := Lib.hid h123
        clear h hf hM hl hk hr hd hm hs hq hz h123
        go_enter Try.func61, Try.ntmps61
        go_wp2_with fail
        refine (landCreate1 base g ts σ _ HM.out HMD.out).mono ?_
        rintro e w2 ⟨rfl, hm2, hg2⟩
        have hf2 := Fr.of_g (bx := none) hg2 HM.out.hg.1 HM.out.base (fun e => by cases e)
        obtain ⟨tv, ov, nv, rv, SN, hm2⟩ := hm2
        obtain ⟨j, hj⟩ : ∃ j, ts.length - σ.rest.length = j := ⟨_, rfl⟩
        have c1 := hm2.blk.cell 1 rfl
        have f1 := hm2.blk.fz 1 rfl
        rw [hj] at c1
        have hj5 : (j : Int) ≤ 5000 := by have := HL.out.2; omega
        have hj0 : (0 : Int) ≤ (j : Int) := by omega
        have HM3 := Lib.hid (hm2.next (σ := { σ with made := σ.made + 1 }) HR.out hj)
        have HF3 := Lib.hid (hf2.setCell (p := ⟨g, 1, none⟩) HM.out.hg.1 (fun e => by cases e) (.int .i64 ((j : Int) + 1)))
        clear hf2 hm2 hg2 hj
        go_wp2_with fail
        refine (landSpanN base g ts { σ with rest := r, made := σ.made + 1 } k _ ⟨_, _, _, _, _, HM3.out⟩ HL.out.2 HGR.out).mono ?_
        rw [show ({ σ with rest := r, made := σ.made + 1 } : PS).rest = r from rfl, HS.out]
        rintro e w4 ⟨rfl, hm4, hf4⟩
        have HM4 := Lib.hid hm4
        have HF4 := Lib.hid (HF3.out.trans hf4)
        clear hm4 hf4 c1 f1
        go_wp2_with fail
        have hb5 := (Below.refl w4.heap.size w4).alloc (Nat.le_refl _) (.cells #[.int .i64 lo, .int .i64 hi] 30)
        have HM5 := Lib.hid (HM4.out.later hb5)
        have HF5 := Lib.hid (HF4.out.trans (Fr.later hb5 (Nat.le_trans HM.out.base HF4.out.below.size)))
        have HX5 := Lib.hid (Blk.new w4 #[.int .i64 lo, .int .i64 hi] 30 _ rfl)
        clear hb5
        have htok := landTok base g ts { σ with rest := q, made := σ.made + 1 } t2 r2 _ HM5.out HQ.out HL.out.2
        rw [HZ.out] at htok
        refine htok.mono ?_
        rintro e w6 ⟨rfl, hb6⟩
        have HM6 := Lib.hid (HM5.out.later hb6)
        have HF6 := Lib.hid (HF5.out.trans (Fr.later hb6 (Nat.le_trans HM.out.base HF5.out.below.size)))
        have z0 := (HX5.out.later hb6).cell 0 rfl
        have z1 := (HX5.out.later hb6).cell 1 rfl
        clear hb6 htok
        go_wp2_with fail
      · refine (landBracket base g M ts { σ with rest := q, made := σ.made + 1 } ⟨k, lo, hi, 1, 0, [125], true, 0⟩ _ HM6.out ⟨rest_ok HF.out.good HSL.out _, HGQ.out, HMD.out⟩ HL.out.1 HL.out.2 (kind_end HGQ.out.allOk (by rw [HQ.out]; show t2.text ≠ []; rw [HT.out]; decide)) HD.out).mono ?_
        intro e w7 h7
        obtain ⟨v, hv⟩ : ∃ v, e = .returned v := by
          cases hx : bracketM ⟨k, lo, hi, 1, 0, [125], true, 0⟩ { σ with rest := q, made := σ.made + 1 } with
          | ok τ => rw [hx] at h7; exact ⟨_, h7.1⟩
          | error y => rw [hx] at h7; exact ⟨_, h7.2.1⟩
        subst hv
        have H7 := Lib.hid (h7.trans HF6.out)
        clear h7
        go_wp2_with fail
        go_ret
        rw [HE.out]
        simp only
        rw [if_neg (fun h => h (by rw [HQ.out]; exact HT.out))]
        exact H7.out
      · go_ret
        rw [HE.out]
        simp only
        rw [if_pos (by rw [HQ.out]; exact HT.out)]
        exact StepGot.bad (by decide) HGQ.out rfl HM6.out HF6.out
end Go.Proofs.Ytbehlceacgaebaa.Parse
