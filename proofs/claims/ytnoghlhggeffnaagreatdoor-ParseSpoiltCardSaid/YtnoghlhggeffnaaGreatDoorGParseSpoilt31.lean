/-
  The walks of the reference's seq, reg, and of row at its three levels. By an AI agent.
-/
import Derived.Test.YtnoghlhggeffnaaGreatDoorGParseSpoilt30
namespace Go.Proofs.YtnoghlhggeffnaaGreatDoor.Parse
open Go.RowKit Go.Proofs.YtnoghlhggeffnaaGreatDoor.Ints Go.Proofs.YtnoghlhggeffnaaGreatDoor.Lex Go.Proofs.YtnoghlhggeffnaaGreatDoor.Tree

theorem op_no0 {t : List UInt8} (h0 : t ≠ [45, 62]) : opOf false 0 t = 0 := by
  by_cases h1 : t = [124] <;> by_cases h2 : t = [38] <;> by_cases h31 : t = [115, 105, 110, 99, 101] <;> by_cases h32 : t = [117, 110, 116, 105, 108] <;> simp [opOf, betwK, *]
theorem op_no1 {t : List UInt8} (h1 : t ≠ [124]) : opOf false 1 t = 0 := by
  by_cases h0 : t = [45, 62] <;> by_cases h2 : t = [38] <;> by_cases h31 : t = [115, 105, 110, 99, 101] <;> by_cases h32 : t = [117, 110, 116, 105, 108] <;> simp [opOf, betwK, *]
theorem op_no2 {t : List UInt8} (h2 : t ≠ [38]) : opOf false 2 t = 0 := by
  by_cases h0 : t = [45, 62] <;> by_cases h1 : t = [124] <;> by_cases h31 : t = [115, 105, 110, 99, 101] <;> by_cases h32 : t = [117, 110, 116, 105, 108] <;> simp [opOf, betwK, *]
theorem op_no3 {t : List UInt8} (h31 : t ≠ [115, 105, 110, 99, 101]) (h32 : t ≠ [117, 110, 116, 105, 108]) : opOf false 3 t = 0 := by
  by_cases h0 : t = [45, 62] <;> by_cases h1 : t = [124] <;> by_cases h2 : t = [38] <;> simp [opOf, betwK, *]
theorem op_no4 {t : List UInt8} (h : t ≠ [43]) : opOf true 0 t = 0 := by
  by_cases h1 : t = [59] <;> simp [opOf, betwK, *]
theorem op_no5 {t : List UInt8} (h : t ≠ [59]) : opOf true 1 t = 0 := by
  by_cases h1 : t = [43] <;> simp [opOf, betwK, *]
/-- row at the level l. -/
def RowPart (l : Nat) (n : Nat) : Prop := ∀ (Pr : Nat → Prop) (base g : Nat) (ts : List Tk) (σ : RS) (w : World), RMemE Pr w base g ts σ → Lw Pr w → Ready σ → (σ.err = 0 → σ.rest.length ≤ n) → ts.length ≤ 5000 →
  Calls Tryz.prog 54 #[.pointer (some ⟨g, 0, none⟩), .int .i64 (l : Int)] w (PartDone Pr base g ts (.row false l) σ w)
theorem tie_row (n : Nat) (H : Part 73 (.row false 3) n) : RowPart 3 n := by
  intro Pr base g ts σ w h hlow hr hn hl
  have HT := Lib.hid (H Pr base g ts σ w h hlow hr hn hl)
  clear h hlow hr hn hl
  go_enter Tryz.func54, Tryz.ntmps54
  go_wp2_with fail
  refine HT.out.mono ?_
  rintro e w1 ⟨a, σ1, rfl, hm, hf, hp⟩
  have HX := Lib.hid (And.intro hm (And.intro hf hp))
  clear hm hf hp
  go_wp2_with fail
  go_ret
  exact ⟨a, σ1, rfl, HX.out.1, HX.out.2.1, HX.out.2.2⟩

set_option maxHeartbeats 8000000 in
theorem refSeq (n : Nat) (H : Part 74 .rep n) : Part 55 (.row true 1) n := by
  intro Pr base g ts σ w h hlow hr hn hl
  have HL := Lib.hid hl
  have HLO := Lib.hid hlow
  have HR := Lib.hid hr
  have HN := Lib.hid hn
  have HB := Lib.hid h.low
  have HOP := Lib.hid H
  have HIN := Lib.hid (H Pr base g ts σ w h hlow hr hn hl)
  clear h hlow hr hn hl
  go_enter Tryz.func55, Tryz.ntmps55
  go_wp2_with fail
  refine HIN.out.mono ?_
  rintro e w1 ⟨a0, σ1, rfl, hm1, hf1, hp1⟩
  have HM1 := Lib.hid hm1
  have HF1 := Lib.hid (hf1)
  have HP1 := Lib.hid ((hp1.as fun _ _ _ h => D.rowRep h).startRow (g := true) (l := 1) (by decide))
  clear hm1 hf1 hp1
  go_wp2_with fail
  go_loopw [3] (fun av wr => ∃ (a : Int) (τ : RS), av = .int .i64 a ∧ Hid (RMemE Pr wr base g ts τ) ∧ Hid (Fp Pr base w wr) ∧ Hid (Loop (.row true 1) (.ops true 1) σ τ a)) (fun _ wr => leftAt wr g ts.length)
  case atStart => exact ⟨a0, σ1, rfl, HM1.out, HF1.out, HP1.out⟩
  case round =>
    obtain ⟨a, τ, rfl, HM, HF, HLP⟩ := hrel
    have HSE := Lib.hid (refSeesU base g ts τ 3 [59] wr HM.out (HLP.out.some HR.out) HL.out)
    by_cases hs : seesB 3 [59] τ = true
    · rw [hs] at HSE
      have HRY := Lib.hid ((HLP.out.open (sees_yes hs).1).1.ready HR.out (HLP.out.open (sees_yes hs).1).2)
      have htx : textOf τ.rest ≠ [] := by rw [(sees_yes hs).2]; exact List.cons_ne_nil _ _
      have HMK := Lib.hid (make_ready (a := true) (b := false) (Or.inl rfl) HRY.out (fun _ => htx))
      have HRD := Lib.hid (fun (b : Int) (σ3 : RS) (hp : Post (.row true (1 + 1)) (makesF true false τ) b σ3) => ops_round (k := 21) HLP.out HR.out (sees_yes hs).1 (by rw [(sees_yes hs).2]; decide) (by decide) htx (spanR_none (by omega) HMK.out.1) hp)
      have HLN := Lib.hid (show τ.rest.length ≤ n from Nat.le_trans (HLP.out.open (sees_yes hs).1).1.less (HN.out (HLP.out.open (sees_yes hs).1).2))
      have HLE := Lib.hid (sees_yes hs).1
      have HAV := Lib.hid HLP.out.val
      clear hs htx
      go_wp2_with fail
      refine HSE.out.mono ?_
      rintro e w2 ⟨rfl, hb⟩
      have HM2 := Lib.hid (HM.out.later hb)
      have HF2 := Lib.hid (HF.out.trans (Fp.later hb HM.out.low))
      clear hb
      go_wp2_with fail
      refine (refMakesU base g ts τ true false (Or.inl rfl) _ HM2.out HRY.out.make HL.out).mono ?_
      rintro e w3 ⟨rfl, hm, hgr⟩
      have HM3 := Lib.hid hm
      have HF3 := Lib.hid (HF2.out.trans (HM2.out.fp hgr))
      clear hm hgr
      go_wp2_with fail
      refine (HOP.out Pr base g ts (makesF true false τ) w3 HM3.out (HLO.out.mono HF3.out.below.size) HMK.out.1 (fun he => by have := (HMK.out.2 he).2; have := HLN.out; omega) HL.out).mono ?_
      rintro e w4 ⟨b, σ3, rfl, hm, hf, hp⟩
      have HM4 := Lib.hid hm
      have HF4 := Lib.hid (HF3.out.trans hf)
      have HR4 := Lib.hid (HRD.out b σ3 (hp.as fun _ _ _ h => D.rowRep h))
      have HBV := Lib.hid hp.val
      clear hm hf hp
      go_wp2_with fail
      refine (refEmit2 base g ts σ3 21 0 0 a b _ w4 _ rfl HM4.out (HLO.out.mono HF4.out.below.size) (by decide) ⟨by unfold small64; decide, by unfold small64; decide⟩ HAV.out HBV.out HR4.out.2.1).mono ?_
      rintro e w5 ⟨rfl, hm, hf⟩
      have HM5 := Lib.hid hm
      have HF5 := Lib.hid (HF4.out.trans hf)
      clear hm hf
      go_wp2_with fail
      go_roundw
      case rel => exact ⟨_, _, rfl, HM5.out, HF5.out, HR4.out.1⟩
      case measure =>
        rw [HM5.out.left, HM.out.left, if_pos HLE.out]
        split
        · next he => have := HR4.out.2.2 he; show σ3.rest.length + 1 < _; omega
        · omega
    · have HST := Lib.hid (HLP.out.stop (fun he d => D.opsEnd (s := ⟨τ.rest, τ.made, τ.nodes⟩) (by
        have h1 := HLP.out.open he
        rw [Bool.not_eq_true, sees_sign he h1.1.good (by decide), decide_eq_false_iff_not] at hs
        exact op_no5 hs)))
      rw [Bool.not_eq_true] at hs
      rw [hs] at HSE
      clear hs
      go_wp2_with fail
      refine HSE.out.mono ?_
      rintro e w2 ⟨rfl, hb⟩
      have HM2 := Lib.hid (HM.out.later hb)
      have HF2 := Lib.hid (HF.out.trans (Fp.later hb HM.out.low))
      clear hb
      go_wp2_with fail
      go_ret
      exact ⟨a, τ, rfl, HM2.out, HF2.out, HST.out⟩

set_option maxHeartbeats 8000000 in
theorem refReg (n : Nat) (H : Part 55 (.row true 1) n) : Part 44 (.row true 0) n := by
  intro Pr base g ts σ w h hlow hr hn hl
  have HL := Lib.hid hl
  have HLO := Lib.hid hlow
  have HR := Lib.hid hr
  have HN := Lib.hid hn
  have HB := Lib.hid h.low
  have HOP := Lib.hid H
  have HIN := Lib.hid (H Pr base g ts σ w h hlow hr hn hl)
  clear h hlow hr hn hl
  go_enter Tryz.func44, Tryz.ntmps44
  go_wp2_with fail
  refine HIN.out.mono ?_
  rintro e w1 ⟨a0, σ1, rfl, hm1, hf1, hp1⟩
  have HM1 := Lib.hid hm1
  have HF1 := Lib.hid (hf1)
  have HP1 := Lib.hid (hp1.startRow (g := true) (l := 0) (by decide))
  clear hm1 hf1 hp1
  go_wp2_with fail
  go_loopw [3] (fun av wr => ∃ (a : Int) (τ : RS), av = .int .i64 a ∧ Hid (RMemE Pr wr base g ts τ) ∧ Hid (Fp Pr base w wr) ∧ Hid (Loop (.row true 0) (.ops true 0) σ τ a)) (fun _ wr => leftAt wr g ts.length)
  case atStart => exact ⟨a0, σ1, rfl, HM1.out, HF1.out, HP1.out⟩
  case round =>
    obtain ⟨a, τ, rfl, HM, HF, HLP⟩ := hrel
    have HSE := Lib.hid (refSeesU base g ts τ 3 [43] wr HM.out (HLP.out.some HR.out) HL.out)
    by_cases hs : seesB 3 [43] τ = true
    · rw [hs] at HSE
      have HRY := Lib.hid ((HLP.out.open (sees_yes hs).1).1.ready HR.out (HLP.out.open (sees_yes hs).1).2)
      have htx : textOf τ.rest ≠ [] := by rw [(sees_yes hs).2]; exact List.cons_ne_nil _ _
      have HMK := Lib.hid (make_ready (a := true) (b := false) (Or.inl rfl) HRY.out (fun _ => htx))
      have HRD := Lib.hid (fun (b : Int) (σ3 : RS) (hp : Post (.row true (0 + 1)) (makesF true false τ) b σ3) => ops_round (k := 20) HLP.out HR.out (sees_yes hs).1 (by rw [(sees_yes hs).2]; decide) (by decide) htx (spanR_none (by omega) HMK.out.1) hp)
      have HLN := Lib.hid (show τ.rest.length ≤ n from Nat.le_trans (HLP.out.open (sees_yes hs).1).1.less (HN.out (HLP.out.open (sees_yes hs).1).2))
      have HLE := Lib.hid (sees_yes hs).1
      have HAV := Lib.hid HLP.out.val
      clear hs htx
      go_wp2_with fail
      refine HSE.out.mono ?_
      rintro e w2 ⟨rfl, hb⟩
      have HM2 := Lib.hid (HM.out.later hb)
      have HF2 := Lib.hid (HF.out.trans (Fp.later hb HM.out.low))
      clear hb
      go_wp2_with fail
      refine (refMakesU base g ts τ true false (Or.inl rfl) _ HM2.out HRY.out.make HL.out).mono ?_
      rintro e w3 ⟨rfl, hm, hgr⟩
      have HM3 := Lib.hid hm
      have HF3 := Lib.hid (HF2.out.trans (HM2.out.fp hgr))
      clear hm hgr
      go_wp2_with fail
      refine (HOP.out Pr base g ts (makesF true false τ) w3 HM3.out (HLO.out.mono HF3.out.below.size) HMK.out.1 (fun he => by have := (HMK.out.2 he).2; have := HLN.out; omega) HL.out).mono ?_
      rintro e w4 ⟨b, σ3, rfl, hm, hf, hp⟩
      have HM4 := Lib.hid hm
      have HF4 := Lib.hid (HF3.out.trans hf)
      have HR4 := Lib.hid (HRD.out b σ3 (hp))
      have HBV := Lib.hid hp.val
      clear hm hf hp
      go_wp2_with fail
      refine (refEmit2 base g ts σ3 20 0 0 a b _ w4 _ rfl HM4.out (HLO.out.mono HF4.out.below.size) (by decide) ⟨by unfold small64; decide, by unfold small64; decide⟩ HAV.out HBV.out HR4.out.2.1).mono ?_
      rintro e w5 ⟨rfl, hm, hf⟩
      have HM5 := Lib.hid hm
      have HF5 := Lib.hid (HF4.out.trans hf)
      clear hm hf
      go_wp2_with fail
      go_roundw
      case rel => exact ⟨_, _, rfl, HM5.out, HF5.out, HR4.out.1⟩
      case measure =>
        rw [HM5.out.left, HM.out.left, if_pos HLE.out]
        split
        · next he => have := HR4.out.2.2 he; show σ3.rest.length + 1 < _; omega
        · omega
    · have HST := Lib.hid (HLP.out.stop (fun he d => D.opsEnd (s := ⟨τ.rest, τ.made, τ.nodes⟩) (by
        have h1 := HLP.out.open he
        rw [Bool.not_eq_true, sees_sign he h1.1.good (by decide), decide_eq_false_iff_not] at hs
        exact op_no4 hs)))
      rw [Bool.not_eq_true] at hs
      rw [hs] at HSE
      clear hs
      go_wp2_with fail
      refine HSE.out.mono ?_
      rintro e w2 ⟨rfl, hb⟩
      have HM2 := Lib.hid (HM.out.later hb)
      have HF2 := Lib.hid (HF.out.trans (Fp.later hb HM.out.low))
      clear hb
      go_wp2_with fail
      go_ret
      exact ⟨a, τ, rfl, HM2.out, HF2.out, HST.out⟩

set_option maxHeartbeats 8000000 in
theorem refRow0 (n : Nat) (H : RowPart 1 n) : RowPart 0 n := by
  intro Pr base g ts σ w h hlow hr hn hl
  have HL := Lib.hid hl
  have HLO := Lib.hid hlow
  have HR := Lib.hid hr
  have HN := Lib.hid hn
  have HB := Lib.hid h.low
  have HOP := Lib.hid H
  have HIN := Lib.hid (H Pr base g ts σ w.drew (h.later (Below.refl _ _).drew) hlow hr hn hl)
  clear h hlow hr hn hl
  rw [show ((0 : Nat) : Int) = 0 from rfl]
  have ix1 : ∀ W, (Instr.index 59 (.agg #[.string { data := #[45, 62] }, .string { data := #[124] }, .string { data := #[38] }]) (.int .i64 0)).run Tryz.prog W = .ok (.string { data := #[45, 62] }) W := fun W => by kernel_rfl
  have ix2 : ∀ W, (Instr.index 93 (.agg #[.int .i64 7, .int .i64 6, .int .i64 5]) (.int .i64 0)).run Tryz.prog W = .ok (.int .i64 7) W := fun W => by kernel_rfl
  go_enter Tryz.func54, Tryz.ntmps54
  go_wp2_with fail
  go_region
  go_wp2_with fail
  refine HIN.out.mono ?_
  rintro e w1 ⟨a0, σ1, rfl, hm1, hf1, hp1⟩
  have HM1 := Lib.hid hm1
  have HF1 := Lib.hid ((Fp.later (Below.refl _ _).drew HB.out).trans hf1)
  have HP1 := Lib.hid (hp1.startRow (g := false) (l := 0) (by decide))
  clear hm1 hf1 hp1
  go_wp2_with fail
  go_loopw [7] (fun av wr => ∃ (a : Int) (τ : RS), av = .int .i64 a ∧ Hid (RMemE Pr wr base g ts τ) ∧ Hid (Fp Pr base w wr) ∧ Hid (Loop (.row false 0) (.ops false 0) σ τ a)) (fun _ wr => leftAt wr g ts.length)
  case atStart => exact ⟨a0, σ1, rfl, HM1.out, HF1.out, HP1.out⟩
  case round =>
    obtain ⟨a, τ, rfl, HM, HF, HLP⟩ := hrel
    have HSE := Lib.hid (refSeesU base g ts τ 3 [45, 62] wr HM.out (HLP.out.some HR.out) HL.out)
    by_cases hs : seesB 3 [45, 62] τ = true
    · rw [hs] at HSE
      have HRY := Lib.hid ((HLP.out.open (sees_yes hs).1).1.ready HR.out (HLP.out.open (sees_yes hs).1).2)
      have htx : textOf τ.rest ≠ [] := by rw [(sees_yes hs).2]; exact List.cons_ne_nil _ _
      have HMK := Lib.hid (make_ready (a := true) (b := false) (Or.inl rfl) HRY.out (fun _ => htx))
      have HRD := Lib.hid (fun (b : Int) (σ3 : RS) (hp : Post (.row false (0 + 1)) (makesF true false τ) b σ3) => ops_round (k := 7) HLP.out HR.out (sees_yes hs).1 (by rw [(sees_yes hs).2]; decide) (by decide) htx (spanR_none (by omega) HMK.out.1) hp)
      have HLN := Lib.hid (show τ.rest.length ≤ n from Nat.le_trans (HLP.out.open (sees_yes hs).1).1.less (HN.out (HLP.out.open (sees_yes hs).1).2))
      have HLE := Lib.hid (sees_yes hs).1
      have HAV := Lib.hid HLP.out.val
      clear hs htx
      go_wp2_with fail
      refine HSE.out.mono ?_
      rintro e w2 ⟨rfl, hb⟩
      have HM2 := Lib.hid (HM.out.later hb)
      have HF2 := Lib.hid (HF.out.trans (Fp.later hb HM.out.low))
      clear hb
      go_wp2_with fail
      refine (refMakesU base g ts τ true false (Or.inl rfl) _ HM2.out HRY.out.make HL.out).mono ?_
      rintro e w3 ⟨rfl, hm, hgr⟩
      have HM3 := Lib.hid hm
      have HF3 := Lib.hid (HF2.out.trans (HM2.out.fp hgr))
      clear hm hgr
      go_wp2_with fail
      refine (HOP.out Pr base g ts (makesF true false τ) w3 HM3.out (HLO.out.mono HF3.out.below.size) HMK.out.1 (fun he => by have := (HMK.out.2 he).2; have := HLN.out; omega) HL.out).mono ?_
      rintro e w4 ⟨b, σ3, rfl, hm, hf, hp⟩
      have HM4 := Lib.hid hm
      have HF4 := Lib.hid (HF3.out.trans hf)
      have HR4 := Lib.hid (HRD.out b σ3 (hp))
      have HBV := Lib.hid hp.val
      clear hm hf hp
      go_wp2_with fail
      refine (refEmit2 base g ts σ3 7 0 0 a b _ w4 _ rfl HM4.out (HLO.out.mono HF4.out.below.size) (by decide) ⟨by unfold small64; decide, by unfold small64; decide⟩ HAV.out HBV.out HR4.out.2.1).mono ?_
      rintro e w5 ⟨rfl, hm, hf⟩
      have HM5 := Lib.hid hm
      have HF5 := Lib.hid (HF4.out.trans hf)
      clear hm hf
      go_wp2_with fail
      go_roundw
      case rel => exact ⟨_, _, rfl, HM5.out, HF5.out, HR4.out.1⟩
      case measure =>
        rw [HM5.out.left, HM.out.left, if_pos HLE.out]
        split
        · next he => have := HR4.out.2.2 he; show σ3.rest.length + 1 < _; omega
        · omega
    · have HST := Lib.hid (HLP.out.stop (fun he d => D.opsEnd (s := ⟨τ.rest, τ.made, τ.nodes⟩) (by
        have h1 := HLP.out.open he
        rw [Bool.not_eq_true, sees_sign he h1.1.good (by decide), decide_eq_false_iff_not] at hs
        exact op_no0 hs)))
      rw [Bool.not_eq_true] at hs
      rw [hs] at HSE
      clear hs
      go_wp2_with fail
      refine HSE.out.mono ?_
      rintro e w2 ⟨rfl, hb⟩
      have HM2 := Lib.hid (HM.out.later hb)
      have HF2 := Lib.hid (HF.out.trans (Fp.later hb HM.out.low))
      clear hb
      go_wp2_with fail
      go_ret
      exact ⟨a, τ, rfl, HM2.out, HF2.out, HST.out⟩

set_option maxHeartbeats 8000000 in
theorem refRow1 (n : Nat) (H : RowPart 2 n) : RowPart 1 n := by
  intro Pr base g ts σ w h hlow hr hn hl
  have HL := Lib.hid hl
  have HLO := Lib.hid hlow
  have HR := Lib.hid hr
  have HN := Lib.hid hn
  have HB := Lib.hid h.low
  have HOP := Lib.hid H
  have HIN := Lib.hid (H Pr base g ts σ w.drew (h.later (Below.refl _ _).drew) hlow hr hn hl)
  clear h hlow hr hn hl
  rw [show ((1 : Nat) : Int) = 1 from rfl]
  have ix1 : ∀ W, (Instr.index 59 (.agg #[.string { data := #[45, 62] }, .string { data := #[124] }, .string { data := #[38] }]) (.int .i64 1)).run Tryz.prog W = .ok (.string { data := #[124] }) W := fun W => by kernel_rfl
  have ix2 : ∀ W, (Instr.index 93 (.agg #[.int .i64 7, .int .i64 6, .int .i64 5]) (.int .i64 1)).run Tryz.prog W = .ok (.int .i64 6) W := fun W => by kernel_rfl
  go_enter Tryz.func54, Tryz.ntmps54
  go_wp2_with fail
  go_region
  go_wp2_with fail
  refine HIN.out.mono ?_
  rintro e w1 ⟨a0, σ1, rfl, hm1, hf1, hp1⟩
  have HM1 := Lib.hid hm1
  have HF1 := Lib.hid ((Fp.later (Below.refl _ _).drew HB.out).trans hf1)
  have HP1 := Lib.hid (hp1.startRow (g := false) (l := 1) (by decide))
  clear hm1 hf1 hp1
  go_wp2_with fail
  go_loopw [7] (fun av wr => ∃ (a : Int) (τ : RS), av = .int .i64 a ∧ Hid (RMemE Pr wr base g ts τ) ∧ Hid (Fp Pr base w wr) ∧ Hid (Loop (.row false 1) (.ops false 1) σ τ a)) (fun _ wr => leftAt wr g ts.length)
  case atStart => exact ⟨a0, σ1, rfl, HM1.out, HF1.out, HP1.out⟩
  case round =>
    obtain ⟨a, τ, rfl, HM, HF, HLP⟩ := hrel
    have HSE := Lib.hid (refSeesU base g ts τ 3 [124] wr HM.out (HLP.out.some HR.out) HL.out)
    by_cases hs : seesB 3 [124] τ = true
    · rw [hs] at HSE
      have HRY := Lib.hid ((HLP.out.open (sees_yes hs).1).1.ready HR.out (HLP.out.open (sees_yes hs).1).2)
      have htx : textOf τ.rest ≠ [] := by rw [(sees_yes hs).2]; exact List.cons_ne_nil _ _
      have HMK := Lib.hid (make_ready (a := true) (b := false) (Or.inl rfl) HRY.out (fun _ => htx))
      have HRD := Lib.hid (fun (b : Int) (σ3 : RS) (hp : Post (.row false (1 + 1)) (makesF true false τ) b σ3) => ops_round (k := 6) HLP.out HR.out (sees_yes hs).1 (by rw [(sees_yes hs).2]; decide) (by decide) htx (spanR_none (by omega) HMK.out.1) hp)
      have HLN := Lib.hid (show τ.rest.length ≤ n from Nat.le_trans (HLP.out.open (sees_yes hs).1).1.less (HN.out (HLP.out.open (sees_yes hs).1).2))
      have HLE := Lib.hid (sees_yes hs).1
      have HAV := Lib.hid HLP.out.val
      clear hs htx
      go_wp2_with fail
      refine HSE.out.mono ?_
      rintro e w2 ⟨rfl, hb⟩
      have HM2 := Lib.hid (HM.out.later hb)
      have HF2 := Lib.hid (HF.out.trans (Fp.later hb HM.out.low))
      clear hb
      go_wp2_with fail
      refine (refMakesU base g ts τ true false (Or.inl rfl) _ HM2.out HRY.out.make HL.out).mono ?_
      rintro e w3 ⟨rfl, hm, hgr⟩
      have HM3 := Lib.hid hm
      have HF3 := Lib.hid (HF2.out.trans (HM2.out.fp hgr))
      clear hm hgr
      go_wp2_with fail
      refine (HOP.out Pr base g ts (makesF true false τ) w3 HM3.out (HLO.out.mono HF3.out.below.size) HMK.out.1 (fun he => by have := (HMK.out.2 he).2; have := HLN.out; omega) HL.out).mono ?_
      rintro e w4 ⟨b, σ3, rfl, hm, hf, hp⟩
      have HM4 := Lib.hid hm
      have HF4 := Lib.hid (HF3.out.trans hf)
      have HR4 := Lib.hid (HRD.out b σ3 (hp))
      have HBV := Lib.hid hp.val
      clear hm hf hp
      go_wp2_with fail
      refine (refEmit2 base g ts σ3 6 0 0 a b _ w4 _ rfl HM4.out (HLO.out.mono HF4.out.below.size) (by decide) ⟨by unfold small64; decide, by unfold small64; decide⟩ HAV.out HBV.out HR4.out.2.1).mono ?_
      rintro e w5 ⟨rfl, hm, hf⟩
      have HM5 := Lib.hid hm
      have HF5 := Lib.hid (HF4.out.trans hf)
      clear hm hf
      go_wp2_with fail
      go_roundw
      case rel => exact ⟨_, _, rfl, HM5.out, HF5.out, HR4.out.1⟩
      case measure =>
        rw [HM5.out.left, HM.out.left, if_pos HLE.out]
        split
        · next he => have := HR4.out.2.2 he; show σ3.rest.length + 1 < _; omega
        · omega
    · have HST := Lib.hid (HLP.out.stop (fun he d => D.opsEnd (s := ⟨τ.rest, τ.made, τ.nodes⟩) (by
        have h1 := HLP.out.open he
        rw [Bool.not_eq_true, sees_sign he h1.1.good (by decide), decide_eq_false_iff_not] at hs
        exact op_no1 hs)))
      rw [Bool.not_eq_true] at hs
      rw [hs] at HSE
      clear hs
      go_wp2_with fail
      refine HSE.out.mono ?_
      rintro e w2 ⟨rfl, hb⟩
      have HM2 := Lib.hid (HM.out.later hb)
      have HF2 := Lib.hid (HF.out.trans (Fp.later hb HM.out.low))
      clear hb
      go_wp2_with fail
      go_ret
      exact ⟨a, τ, rfl, HM2.out, HF2.out, HST.out⟩

set_option maxHeartbeats 8000000 in
theorem refRow2 (n : Nat) (H : RowPart 3 n) : RowPart 2 n := by
  intro Pr base g ts σ w h hlow hr hn hl
  have HL := Lib.hid hl
  have HLO := Lib.hid hlow
  have HR := Lib.hid hr
  have HN := Lib.hid hn
  have HB := Lib.hid h.low
  have HOP := Lib.hid H
  have HIN := Lib.hid (H Pr base g ts σ w.drew (h.later (Below.refl _ _).drew) hlow hr hn hl)
  clear h hlow hr hn hl
  rw [show ((2 : Nat) : Int) = 2 from rfl]
  have ix1 : ∀ W, (Instr.index 59 (.agg #[.string { data := #[45, 62] }, .string { data := #[124] }, .string { data := #[38] }]) (.int .i64 2)).run Tryz.prog W = .ok (.string { data := #[38] }) W := fun W => by kernel_rfl
  have ix2 : ∀ W, (Instr.index 93 (.agg #[.int .i64 7, .int .i64 6, .int .i64 5]) (.int .i64 2)).run Tryz.prog W = .ok (.int .i64 5) W := fun W => by kernel_rfl
  go_enter Tryz.func54, Tryz.ntmps54
  go_wp2_with fail
  go_region
  go_wp2_with fail
  refine HIN.out.mono ?_
  rintro e w1 ⟨a0, σ1, rfl, hm1, hf1, hp1⟩
  have HM1 := Lib.hid hm1
  have HF1 := Lib.hid ((Fp.later (Below.refl _ _).drew HB.out).trans hf1)
  have HP1 := Lib.hid (hp1.startRow (g := false) (l := 2) (by decide))
  clear hm1 hf1 hp1
  go_wp2_with fail
  go_loopw [7] (fun av wr => ∃ (a : Int) (τ : RS), av = .int .i64 a ∧ Hid (RMemE Pr wr base g ts τ) ∧ Hid (Fp Pr base w wr) ∧ Hid (Loop (.row false 2) (.ops false 2) σ τ a)) (fun _ wr => leftAt wr g ts.length)
  case atStart => exact ⟨a0, σ1, rfl, HM1.out, HF1.out, HP1.out⟩
  case round =>
    obtain ⟨a, τ, rfl, HM, HF, HLP⟩ := hrel
    have HSE := Lib.hid (refSeesU base g ts τ 3 [38] wr HM.out (HLP.out.some HR.out) HL.out)
    by_cases hs : seesB 3 [38] τ = true
    · rw [hs] at HSE
      have HRY := Lib.hid ((HLP.out.open (sees_yes hs).1).1.ready HR.out (HLP.out.open (sees_yes hs).1).2)
      have htx : textOf τ.rest ≠ [] := by rw [(sees_yes hs).2]; exact List.cons_ne_nil _ _
      have HMK := Lib.hid (make_ready (a := true) (b := false) (Or.inl rfl) HRY.out (fun _ => htx))
      have HRD := Lib.hid (fun (b : Int) (σ3 : RS) (hp : Post (.row false (2 + 1)) (makesF true false τ) b σ3) => ops_round (k := 5) HLP.out HR.out (sees_yes hs).1 (by rw [(sees_yes hs).2]; decide) (by decide) htx (spanR_none (by omega) HMK.out.1) hp)
      have HLN := Lib.hid (show τ.rest.length ≤ n from Nat.le_trans (HLP.out.open (sees_yes hs).1).1.less (HN.out (HLP.out.open (sees_yes hs).1).2))
      have HLE := Lib.hid (sees_yes hs).1
      have HAV := Lib.hid HLP.out.val
      clear hs htx
      go_wp2_with fail
      refine HSE.out.mono ?_
      rintro e w2 ⟨rfl, hb⟩
      have HM2 := Lib.hid (HM.out.later hb)
      have HF2 := Lib.hid (HF.out.trans (Fp.later hb HM.out.low))
      clear hb
      go_wp2_with fail
      refine (refMakesU base g ts τ true false (Or.inl rfl) _ HM2.out HRY.out.make HL.out).mono ?_
      rintro e w3 ⟨rfl, hm, hgr⟩
      have HM3 := Lib.hid hm
      have HF3 := Lib.hid (HF2.out.trans (HM2.out.fp hgr))
      clear hm hgr
      go_wp2_with fail
      refine (HOP.out Pr base g ts (makesF true false τ) w3 HM3.out (HLO.out.mono HF3.out.below.size) HMK.out.1 (fun he => by have := (HMK.out.2 he).2; have := HLN.out; omega) HL.out).mono ?_
      rintro e w4 ⟨b, σ3, rfl, hm, hf, hp⟩
      have HM4 := Lib.hid hm
      have HF4 := Lib.hid (HF3.out.trans hf)
      have HR4 := Lib.hid (HRD.out b σ3 (hp))
      have HBV := Lib.hid hp.val
      clear hm hf hp
      go_wp2_with fail
      refine (refEmit2 base g ts σ3 5 0 0 a b _ w4 _ rfl HM4.out (HLO.out.mono HF4.out.below.size) (by decide) ⟨by unfold small64; decide, by unfold small64; decide⟩ HAV.out HBV.out HR4.out.2.1).mono ?_
      rintro e w5 ⟨rfl, hm, hf⟩
      have HM5 := Lib.hid hm
      have HF5 := Lib.hid (HF4.out.trans hf)
      clear hm hf
      go_wp2_with fail
      go_roundw
      case rel => exact ⟨_, _, rfl, HM5.out, HF5.out, HR4.out.1⟩
      case measure =>
        rw [HM5.out.left, HM.out.left, if_pos HLE.out]
        split
        · next he => have := HR4.out.2.2 he; show σ3.rest.length + 1 < _; omega
        · omega
    · have HST := Lib.hid (HLP.out.stop (fun he d => D.opsEnd (s := ⟨τ.rest, τ.made, τ.nodes⟩) (by
        have h1 := HLP.out.open he
        rw [Bool.not_eq_true, sees_sign he h1.1.good (by decide), decide_eq_false_iff_not] at hs
        exact op_no2 hs)))
      rw [Bool.not_eq_true] at hs
      rw [hs] at HSE
      clear hs
      go_wp2_with fail
      refine HSE.out.mono ?_
      rintro e w2 ⟨rfl, hb⟩
      have HM2 := Lib.hid (HM.out.later hb)
      have HF2 := Lib.hid (HF.out.trans (Fp.later hb HM.out.low))
      clear hb
      go_wp2_with fail
      go_ret
      exact ⟨a, τ, rfl, HM2.out, HF2.out, HST.out⟩
end Go.Proofs.YtnoghlhggeffnaaGreatDoor.Parse
