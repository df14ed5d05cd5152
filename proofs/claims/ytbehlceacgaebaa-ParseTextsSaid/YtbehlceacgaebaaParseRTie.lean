/-
  The walk of the reference's tie. By an AI agent.
-/
import Derived.Test.YtbehlceacgaebaaParseRSeq
namespace Go.Proofs.Ytbehlceacgaebaa.Parse
open Go.RowKit Go.Proofs.Ytbehlceacgaebaa.Ints Go.Proofs.Ytbehlceacgaebaa.Lex Go.Proofs.Ytbehlceacgaebaa.Tree

theorem Fp.box {Pr : Nat → Prop} {base b : Nat} {w w' : World} {vs : List Value} (h : Fp Pr base w w') (hp : Pr b) (hb : Blk w b vs) : Blk w' b vs := hb.same h.below.size (h.far b hp hb.1)
theorem word_not {k : Nat} {u v : List UInt8} {σ : RS} (hs : seesB k u σ = true) (huv : u ≠ v) : seesB k v σ = false := by
  rw [← Bool.not_eq_true]
  intro h
  exact huv ((sees_yes hs).2.symm.trans (sees_yes h).2)
theorem Lw.box {Pr : Nat → Prop} {w : World} (h : Lw Pr w) (o : Obj) : Lw (fun b => Pr b ∨ b = w.heap.size) (w.alloc o) := fun b hb => by
  rcases hb with hb | hb
  · have := h b hb; simp; omega
  · simp; omega
set_option maxHeartbeats 16000000 in
theorem refTie (n : Nat) (H : Part 64 (.opd false) n) : Part 48 (.row false 3) n := by
  intro Pr base g ts σ w h hlow hr hn hl
  have HL := Lib.hid hl
  have HLO := Lib.hid hlow
  have HR := Lib.hid hr
  have HN := Lib.hid hn
  have HB := Lib.hid h.low
  have HOP := Lib.hid H
  have HIN := Lib.hid (H Pr base g ts σ w h hlow hr hn hl)
  clear h hlow hr hn hl
  go_enter Try.func48, Try.ntmps48
  go_wp2_with fail
  refine HIN.out.mono ?_
  rintro e w1 ⟨a0, σ1, rfl, hm1, hf1, hp1⟩
  have HM1 := Lib.hid hm1
  have HF1 := Lib.hid hf1
  have HP1 := Lib.hid ((hp1.as fun _ _ _ h => D.rowUn h).startRow (g := false) (l := 3) (by decide))
  clear hm1 hf1 hp1
  go_wp2_with fail
  go_loopw [3] (fun av wr => ∃ (a : Int) (τ : RS), av = .int .i64 a ∧ Hid (RMemE Pr wr base g ts τ) ∧ Hid (Fp Pr base w wr) ∧ Hid (Loop (.row false 3) (.ops false 3) σ τ a)) (fun _ wr => leftAt wr g ts.length)
  case atStart => exact ⟨a0, σ1, rfl, HM1.out, HF1.out, HP1.out⟩
  case round =>
    obtain ⟨a, τ, rfl, HM, HF, HLP⟩ := hrel
    have HSE := Lib.hid (fun wx (hb : Below wr.heap.size wr wx) => refSeesU base g ts τ 1 [115, 105, 110, 99, 101] wx (HM.out.later hb) (HLP.out.some HR.out) HL.out)
    have HSU := Lib.hid (fun wx (hb : Below wr.heap.size wr wx) => refSeesU base g ts τ 1 [117, 110, 116, 105, 108] wx (HM.out.later hb) (HLP.out.some HR.out) HL.out)
    by_cases hs : seesB 1 [115, 105, 110, 99, 101] τ = true
    · rw [hs] at HSE
      rw [word_not hs (by decide)] at HSU
      have HRY := Lib.hid ((HLP.out.open (sees_yes hs).1).1.ready HR.out (HLP.out.open (sees_yes hs).1).2)
      have htx : textOf τ.rest ≠ [] := by rw [(sees_yes hs).2]; exact List.cons_ne_nil _ _
      have HMK := Lib.hid (make_ready (a := true) (b := false) (Or.inl rfl) HRY.out (fun _ => htx))
      have HRD := Lib.hid (fun (lo hi : Int) (σ2 : RS) (hsp : SpanPost 14 (makesF true false τ) lo hi σ2) (b : Int) (σ3 : RS) (hp : Post (.row false (3 + 1)) σ2 b σ3) => ops_round (k := 14) HLP.out HR.out (sees_yes hs).1 (by rw [(sees_yes hs).2]; decide) (by decide) htx hsp hp)
      have HLN := Lib.hid (show τ.rest.length ≤ n from Nat.le_trans (HLP.out.open (sees_yes hs).1).1.less (HN.out (HLP.out.open (sees_yes hs).1).2))
      have HLE := Lib.hid (sees_yes hs).1
      have HAV := Lib.hid HLP.out.val
      clear hs htx
      go_wp2_with fail
      refine (HSE.out _ (Below.refl _ _)).mono ?_
      rintro e w2 ⟨rfl, hb⟩
      have HB2 := Lib.hid hb
      clear hb
      go_wp2_with fail
      refine (HSU.out _ HB2.out).mono ?_
      rintro e w3 ⟨rfl, hb⟩
      have HB3 := Lib.hid (HB2.out.trans (hb.mono HB2.out.size))
      clear hb
      have HM3 := Lib.hid (HM.out.later HB3.out)
      have HF3 := Lib.hid (HF.out.trans (Fp.later HB3.out HM.out.low))
      go_wp2_with fail
      refine (refMakesU base g ts τ true false (Or.inl rfl) _ HM3.out HRY.out.make HL.out).mono ?_
      rintro e w4 ⟨rfl, hm, hgr⟩
      have HM4 := Lib.hid hm
      have HF4 := Lib.hid (HF3.out.trans (HM3.out.fp hgr))
      clear hm hgr
      go_wp2_with fail
      refine (refSpan base g ts (makesF true false τ) w4 HM4.out (HLO.out.mono HF4.out.below.size) HMK.out.1 HL.out).mono ?_
      rintro e w5 ⟨lo, hi, σ2, rfl, hm, hf, hsp⟩
      have HSP := Lib.hid (hsp 14 (by decide) (by decide))
      have HM5 := Lib.hid hm
      have HF5 := Lib.hid (HF4.out.trans hf)
      have HRB := Lib.hid (HSP.out.ready HMK.out.1)
      have HMB := Lib.hid (hm.boxed (.cells #[.int .i64 lo, .int .i64 hi] 30))
      have HLB := Lib.hid (Lw.box (HLO.out.mono HF5.out.below.size) (.cells #[.int .i64 lo, .int .i64 hi] 30))
      have HBX := Lib.hid (Blk.new w5 #[.int .i64 lo, .int .i64 hi] 30 _ rfl)
      have HFB := Lib.hid (HF5.out.trans (Fp.later (Pr := Pr) ((Below.refl _ _).alloc (Nat.le_refl _) (.cells #[.int .i64 lo, .int .i64 hi] 30)) hm.low))
      clear hm hf hsp
      go_wp2_with fail
      refine (HOP.out _ base g ts σ2 _ HMB.out HLB.out HRB.out.1 (fun he => by have h1 := HRB.out.2 he; have h2 := (HMK.out.2 h1.1).2; have := HLN.out; omega) HL.out).mono ?_
      rintro e w6 ⟨b, σ3, rfl, hm, hf, hp⟩
      have hbx := hf.box (b := w5.heap.size) (Or.inr rfl) HBX.out
      have c0 := hbx.cell 0 rfl
      have c1 := hbx.cell 1 rfl
      have HM6 := Lib.hid (hm.mono (Pr' := Pr) fun b _ hb hp => hb (Or.inl hp))
      have HF6 := Lib.hid (HFB.out.trans (hf.mono fun b hb => Or.inl hb))
      have HR6 := Lib.hid (HRD.out lo hi σ2 HSP.out b σ3 (hp.as fun _ _ _ h => D.rowUn h))
      have HBV := Lib.hid hp.val
      clear hm hf hp hbx
      go_wp2_with fail
      refine (refEmit2 base g ts σ3 14 lo hi a b _ w6 _ rfl HM6.out (HLO.out.mono HF6.out.below.size) (by decide) HSP.out.small HAV.out HBV.out HR6.out.2.1).mono ?_
      rintro e w7 ⟨rfl, hm, hf⟩
      have HM7 := Lib.hid hm
      have HF7 := Lib.hid (HF6.out.trans hf)
      clear hm hf
      go_wp2_with fail
      go_roundw
      case rel => exact ⟨_, _, rfl, HM7.out, HF7.out, HR6.out.1⟩
      case measure =>
        rw [HM7.out.left, HM.out.left, if_pos HLE.out]
        split
        · next he => have := HR6.out.2.2 he; show σ3.rest.length + 1 < _; omega
        · omega
    · rw [Bool.not_eq_true] at hs
      rw [hs] at HSE
      by_cases hs2 : seesB 1 [117, 110, 116, 105, 108] τ = true
      · rw [hs2] at HSU
        clear hs
        have hs := hs2
        clear hs2
        have HRY := Lib.hid ((HLP.out.open (sees_yes hs).1).1.ready HR.out (HLP.out.open (sees_yes hs).1).2)
        have htx : textOf τ.rest ≠ [] := by rw [(sees_yes hs).2]; exact List.cons_ne_nil _ _
        have HMK := Lib.hid (make_ready (a := true) (b := false) (Or.inl rfl) HRY.out (fun _ => htx))
        have HRD := Lib.hid (fun (lo hi : Int) (σ2 : RS) (hsp : SpanPost 15 (makesF true false τ) lo hi σ2) (b : Int) (σ3 : RS) (hp : Post (.row false (3 + 1)) σ2 b σ3) => ops_round (k := 15) HLP.out HR.out (sees_yes hs).1 (by rw [(sees_yes hs).2]; decide) (by decide) htx hsp hp)
        have HLN := Lib.hid (show τ.rest.length ≤ n from Nat.le_trans (HLP.out.open (sees_yes hs).1).1.less (HN.out (HLP.out.open (sees_yes hs).1).2))
        have HLE := Lib.hid (sees_yes hs).1
        have HAV := Lib.hid HLP.out.val
        clear hs htx
        go_wp2_with fail
        refine (HSE.out _ (Below.refl _ _)).mono ?_
        rintro e w2 ⟨rfl, hb⟩
        have HB2 := Lib.hid hb
        clear hb
        go_wp2_with fail
        refine (HSU.out _ HB2.out).mono ?_
        rintro e w2' ⟨rfl, hb⟩
        have HB2' := Lib.hid (HB2.out.trans (hb.mono HB2.out.size))
        clear hb
        go_wp2_with fail
        refine (HSU.out _ HB2'.out).mono ?_
        rintro e w3 ⟨rfl, hb⟩
        have HB3 := Lib.hid (HB2'.out.trans (hb.mono HB2'.out.size))
        clear hb
        have HM3 := Lib.hid (HM.out.later HB3.out)
        have HF3 := Lib.hid (HF.out.trans (Fp.later HB3.out HM.out.low))
        go_wp2_with fail
        refine (refMakesU base g ts τ true false (Or.inl rfl) _ HM3.out HRY.out.make HL.out).mono ?_
        rintro e w4 ⟨rfl, hm, hgr⟩
        have HM4 := Lib.hid hm
        have HF4 := Lib.hid (HF3.out.trans (HM3.out.fp hgr))
        clear hm hgr
        go_wp2_with fail
        refine (refSpan base g ts (makesF true false τ) w4 HM4.out (HLO.out.mono HF4.out.below.size) HMK.out.1 HL.out).mono ?_
        rintro e w5 ⟨lo, hi, σ2, rfl, hm, hf, hsp⟩
        have HSP := Lib.hid (hsp 15 (by decide) (by decide))
        have HM5 := Lib.hid hm
        have HF5 := Lib.hid (HF4.out.trans hf)
        have HRB := Lib.hid (HSP.out.ready HMK.out.1)
        have HMB := Lib.hid (hm.boxed (.cells #[.int .i64 lo, .int .i64 hi] 30))
        have HLB := Lib.hid (Lw.box (HLO.out.mono HF5.out.below.size) (.cells #[.int .i64 lo, .int .i64 hi] 30))
        have HBX := Lib.hid (Blk.new w5 #[.int .i64 lo, .int .i64 hi] 30 _ rfl)
        have HFB := Lib.hid (HF5.out.trans (Fp.later (Pr := Pr) ((Below.refl _ _).alloc (Nat.le_refl _) (.cells #[.int .i64 lo, .int .i64 hi] 30)) hm.low))
        clear hm hf hsp
        go_wp2_with fail
        refine (HOP.out _ base g ts σ2 _ HMB.out HLB.out HRB.out.1 (fun he => by have h1 := HRB.out.2 he; have h2 := (HMK.out.2 h1.1).2; have := HLN.out; omega) HL.out).mono ?_
        rintro e w6 ⟨b, σ3, rfl, hm, hf, hp⟩
        have hbx := hf.box (b := w5.heap.size) (Or.inr rfl) HBX.out
        have c0 := hbx.cell 0 rfl
        have c1 := hbx.cell 1 rfl
        have HM6 := Lib.hid (hm.mono (Pr' := Pr) fun b _ hb hp => hb (Or.inl hp))
        have HF6 := Lib.hid (HFB.out.trans (hf.mono fun b hb => Or.inl hb))
        have HR6 := Lib.hid (HRD.out lo hi σ2 HSP.out b σ3 (hp.as fun _ _ _ h => D.rowUn h))
        have HBV := Lib.hid hp.val
        clear hm hf hp hbx
        go_wp2_with fail
        refine (refEmit2 base g ts σ3 15 lo hi a b _ w6 _ rfl HM6.out (HLO.out.mono HF6.out.below.size) (by decide) HSP.out.small HAV.out HBV.out HR6.out.2.1).mono ?_
        rintro e w7 ⟨rfl, hm, hf⟩
        have HM7 := Lib.hid hm
        have HF7 := Lib.hid (HF6.out.trans hf)
        clear hm hf
        go_wp2_with fail
        go_roundw
        case rel => exact ⟨_, _, rfl, HM7.out, HF7.out, HR6.out.1⟩
        case measure =>
          rw [HM7.out.left, HM.out.left, if_pos HLE.out]
          split
          · next he => have := HR6.out.2.2 he; show σ3.rest.length + 1 < _; omega
          · omega
      · have HST := Lib.hid (HLP.out.stop (fun he d => D.opsEnd (s := ⟨τ.rest, τ.made, τ.nodes⟩) (by
          have h1 := HLP.out.open he
          rw [Bool.not_eq_true, sees_word he h1.1.good (by decide), decide_eq_false_iff_not] at hs2
          rw [sees_word he h1.1.good (by decide), decide_eq_false_iff_not] at hs
          exact op_no3 hs hs2)))
        rw [Bool.not_eq_true] at hs2
        rw [hs2] at HSU
        clear hs hs2
        go_wp2_with fail
        refine (HSE.out _ (Below.refl _ _)).mono ?_
        rintro e w2 ⟨rfl, hb⟩
        have HB2 := Lib.hid hb
        clear hb
        go_wp2_with fail
        refine (HSU.out _ HB2.out).mono ?_
        rintro e w3 ⟨rfl, hb⟩
        have HB3 := Lib.hid (HB2.out.trans (hb.mono HB2.out.size))
        clear hb
        have HM2 := Lib.hid (HM.out.later HB3.out)
        have HF2 := Lib.hid (HF.out.trans (Fp.later HB3.out HM.out.low))
        go_wp2_with fail
        go_ret
        exact ⟨a, τ, rfl, HM2.out, HF2.out, HST.out⟩
end Go.Proofs.Ytbehlceacgaebaa.Parse
