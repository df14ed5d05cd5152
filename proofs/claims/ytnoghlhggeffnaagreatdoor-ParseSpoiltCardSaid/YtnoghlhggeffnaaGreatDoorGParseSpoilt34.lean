/-
  The walk of the reference's un; form; and all parts, by the tokens that are left. By an AI agent.
-/
import Derived.Test.YtnoghlhggeffnaaGreatDoorGParseSpoilt33
namespace Go.Proofs.YtnoghlhggeffnaaGreatDoor.Parse
open Go.RowKit Go.Proofs.YtnoghlhggeffnaaGreatDoor.Ints Go.Proofs.YtnoghlhggeffnaaGreatDoor.Lex Go.Proofs.YtnoghlhggeffnaaGreatDoor.Tree

/-- prim, where no sign and no word stands ahead. -/
def PrimPart (n : Nat) : Prop := ∀ (Pr : Nat → Prop) (base g : Nat) (ts : List Tk) (σ : RS) (w : World), RMemE Pr w base g ts σ → Lw Pr w → Ready σ → σ.rest.length ≤ n → ts.length ≤ 5000 → σ.err = 0 → preOf false (textOf σ.rest) = 0 →
  Calls Tryz.prog 109 #[.pointer (some ⟨g, 0, none⟩)] w (PartDone Pr base g ts (.opd false) σ w)
def aheads : List (List UInt8) := [[112, 114, 101, 118], [110, 101, 120, 116], [111, 110, 99, 101], [104, 105, 115, 116], [115, 111, 109, 101], [97, 108, 108]]
theorem pre_no {t : List UInt8} (h0 : t ≠ [33]) (h : ∀ j : Nat, j < 6 → t ≠ aheads.getD j []) : preOf false t = 0 := by
  have a0 := h 0 (by decide)
  have a1 := h 1 (by decide)
  have a2 := h 2 (by decide)
  have a3 := h 3 (by decide)
  have a4 := h 4 (by decide)
  have a5 := h 5 (by decide)
  simp only [aheads, List.getD_cons_zero, List.getD_cons_succ] at a0 a1 a2 a3 a4 a5
  simp [preOf, aheadK, h0, a0, a1, a2, a3, a4, a5]
set_option maxHeartbeats 16000000 in
theorem refUnE (Pr : Nat → Prop) (base g : Nat) (ts : List Tk) (σ : RS) (w : World) (h : RMemE Pr w base g ts σ) (he : σ.err ≠ 0) :
    Calls Tryz.prog 93 #[.pointer (some ⟨g, 0, none⟩)] w (PartDone Pr base g ts (.opd false) σ w) := by
  have c5 := h.errc
  have hne : ((σ.err : Int) != 0) = true := by simp; omega
  have HX := Lib.hid (fun w' hb => part_err (nt := .opd false) (w' := w') h he hb)
  clear h he
  go_enter Tryz.func93, Tryz.ntmps93
  go_wp2_with fail
  refine bodyPost_ret (v := .int .i64 0) (by simp [results, Tryz.results93, go_sem]) rfl ?_
  exact HX.out _ (Below.refl _ _)

set_option maxHeartbeats 40000000 in
theorem refUn (n : Nat) (HU : ∀ m, m < n → Part 93 (.opd false) m) (HPR : PrimPart n) : Part 93 (.opd false) n := by
  intro Pr base g ts σ w h hlow hr hn hl
  by_cases he' : σ.err ≠ 0
  · exact refUnE Pr base g ts σ w h he'
  have he : σ.err = 0 := Classical.not_not.1 he'
  clear he'
  have h5 := h.errc
  rw [he] at h5
  have c5 : w.cell? ⟨g, 5, none⟩ = some (.int .i64 0) := h5
  have hn := hn he
  have hsm := hr.some he
  have HLT := Lib.hid (tail_len hsm)
  have hnp : 0 < n := by have := tail_len hsm; omega
  have HUU := Lib.hid (HU (n - 1) (by omega))
  clear HU
  have HN := Lib.hid hn
  have HL := Lib.hid hl
  have HLO := Lib.hid hlow
  have HR := Lib.hid hr
  have HM := Lib.hid h
  have HE := Lib.hid he
  have HGD := Lib.hid (hr.good he).1
  have HSE := Lib.hid (fun (k : Nat) (u : List UInt8) (wx : World) (hb : Below w.heap.size w wx) => refSeesU base g ts σ k u wx (h.later hb) (fun _ => hsm) hl)
  by_cases s1 : seesB 3 [33] σ = true
  · have hy := (sees_yes s1).2
    have htx : textOf σ.rest ≠ [] := by rw [hy]; exact List.cons_ne_nil _ _
    have HS1 := Lib.hid (HSE.out 3 [33])
    rw [s1] at HS1
    have HMK := Lib.hid (make_ready (a := true) (b := true) (Or.inl rfl) hr (fun _ => htx))
    have HRD := Lib.hid (fun (a : Int) (σ3 : RS) (hp : Post (.opd false) (makesF true true σ) a σ3) => pre_post (g := false) (k := 4) hr he (by rw [hy]; rfl) (by decide) htx (spanR_none (by omega) HMK.out.1) hp)
    clear h hlow hr hn hl hsm he h5 hnp s1 hy htx HSE
    go_enter Tryz.func93, Tryz.ntmps93
    go_wp2_with fail
    refine (HS1.out _ (Below.refl _ _)).mono ?_
    rintro e w2 ⟨rfl, hb⟩
    have HB2 := Lib.hid hb
    clear hb
    have HM2 := Lib.hid (HM.out.later HB2.out)
    have HF2 := Lib.hid (Fp.later (Pr := Pr) HB2.out HM.out.low)
    go_wp2_with fail
    refine (refMakesU base g ts σ true true (Or.inl rfl) _ HM2.out HR.out.make HL.out).mono ?_
    rintro e w3 ⟨rfl, hm, hgr⟩
    have HM3 := Lib.hid hm
    have HF3 := Lib.hid (HF2.out.trans (HM2.out.fp hgr))
    clear hm hgr
    go_wp2_with fail
    refine (HUU.out Pr base g ts (makesF true true σ) w3 HM3.out (HLO.out.mono HF3.out.below.size) HMK.out.1 (fun he => by have h2 := (HMK.out.2 he).2; have := HN.out; omega) HL.out).mono ?_
    rintro e w4 ⟨a, σ3, rfl, hm, hf, hp⟩
    have HR4 := Lib.hid (HRD.out a σ3 hp)
    have HAV := Lib.hid hp.val
    obtain ⟨c4, f4⟩ := hm.deepc
    have hd1 := HR4.out.2.2.1
    have hd2 := HR4.out.2.2.2
    have HM4 := Lib.hid hm.down
    have HF4 := Lib.hid ((HF3.out.trans hf).trans (hm.fpg 4 (.int .i64 (σ3.deep - 1))))
    clear hm hf hp
    go_wp2_with fail
    refine (refEmit1 base g ts { σ3 with deep := σ3.deep - 1 } 4 0 0 a _ _ _ (by simp) HM4.out (HLO.out.mono HF4.out.below.size) (by decide) ⟨by unfold small64; decide, by unfold small64; decide⟩ HAV.out HR4.out.2.1).mono ?_
    rintro e w5 ⟨rfl, hm, hf⟩
    have HM5 := Lib.hid hm
    have HF5 := Lib.hid (HF4.out.trans hf)
    clear hm hf
    go_wp2_with fail
    refine bodyPost_ret (v := .int .i64 (σ3.nodes.length : Int)) (by simp [results, Tryz.results93, go_sem]) rfl ?_
    exact ⟨_, _, rfl, HM5.out, HF5.out, HR4.out.1⟩
  rw [Bool.not_eq_true] at s1
  have HS1 := Lib.hid (HSE.out 3 [33])
  rw [s1] at HS1
  have HNX := Lib.hid (show textOf σ.rest ≠ [33] by rw [sees_sign he (hr.good he).1 (by decide), decide_eq_false_iff_not] at s1; exact s1)
  have HPP := Lib.hid (HPR)
  clear h hlow hr hn hl hsm he h5 hnp s1 HPR
  have ix0 : ∀ W, (Instr.index 121 (.agg #[.string { data := #[112, 114, 101, 118] }, .string { data := #[110, 101, 120, 116] }, .string { data := #[111, 110, 99, 101] }, .string { data := #[104, 105, 115, 116] }, .string { data := #[115, 111, 109, 101] }, .string { data := #[97, 108, 108] }]) (.int .i64 0)).run Tryz.prog W = .ok (.string { data := #[112, 114, 101, 118] }) W := fun W => by kernel_rfl
  have ix1 : ∀ W, (Instr.index 121 (.agg #[.string { data := #[112, 114, 101, 118] }, .string { data := #[110, 101, 120, 116] }, .string { data := #[111, 110, 99, 101] }, .string { data := #[104, 105, 115, 116] }, .string { data := #[115, 111, 109, 101] }, .string { data := #[97, 108, 108] }]) (.int .i64 1)).run Tryz.prog W = .ok (.string { data := #[110, 101, 120, 116] }) W := fun W => by kernel_rfl
  have ix2 : ∀ W, (Instr.index 121 (.agg #[.string { data := #[112, 114, 101, 118] }, .string { data := #[110, 101, 120, 116] }, .string { data := #[111, 110, 99, 101] }, .string { data := #[104, 105, 115, 116] }, .string { data := #[115, 111, 109, 101] }, .string { data := #[97, 108, 108] }]) (.int .i64 2)).run Tryz.prog W = .ok (.string { data := #[111, 110, 99, 101] }) W := fun W => by kernel_rfl
  have ix3 : ∀ W, (Instr.index 121 (.agg #[.string { data := #[112, 114, 101, 118] }, .string { data := #[110, 101, 120, 116] }, .string { data := #[111, 110, 99, 101] }, .string { data := #[104, 105, 115, 116] }, .string { data := #[115, 111, 109, 101] }, .string { data := #[97, 108, 108] }]) (.int .i64 3)).run Tryz.prog W = .ok (.string { data := #[104, 105, 115, 116] }) W := fun W => by kernel_rfl
  have ix4 : ∀ W, (Instr.index 121 (.agg #[.string { data := #[112, 114, 101, 118] }, .string { data := #[110, 101, 120, 116] }, .string { data := #[111, 110, 99, 101] }, .string { data := #[104, 105, 115, 116] }, .string { data := #[115, 111, 109, 101] }, .string { data := #[97, 108, 108] }]) (.int .i64 4)).run Tryz.prog W = .ok (.string { data := #[115, 111, 109, 101] }) W := fun W => by kernel_rfl
  have ix5 : ∀ W, (Instr.index 121 (.agg #[.string { data := #[112, 114, 101, 118] }, .string { data := #[110, 101, 120, 116] }, .string { data := #[111, 110, 99, 101] }, .string { data := #[104, 105, 115, 116] }, .string { data := #[115, 111, 109, 101] }, .string { data := #[97, 108, 108] }]) (.int .i64 5)).run Tryz.prog W = .ok (.string { data := #[97, 108, 108] }) W := fun W => by kernel_rfl
  go_enter Tryz.func93, Tryz.ntmps93
  go_wp2_with fail
  refine (HS1.out _ (Below.refl _ _)).mono ?_
  rintro e w2 ⟨rfl, hb⟩
  have HB2 := Lib.hid hb
  clear hb
  go_wp2_with fail
  clear c5
  go_loopw [32] (fun i wr => ∃ k : Nat, k ≤ 6 ∧ i = .int .i64 k ∧ Hid (Below w.heap.size w wr) ∧ Hid (∀ j : Nat, j < k → textOf σ.rest ≠ aheads.getD j [])) (fun i _ => 6 - (intOf i).toNat)
  case atStart => exact ⟨0, Nat.zero_le _, rfl, HB2.out, fun j hj => absurd hj (Nat.not_lt_zero _)⟩
  case round =>
    obtain ⟨k, hk, rfl, HBR, HNO⟩ := hrel
    by_cases hk6 : k = 6
    · subst hk6
      have HM3 := Lib.hid (HM.out.later HBR.out)
      have HF3 := Lib.hid (Fp.later (Pr := Pr) HBR.out HM.out.low)
      go_wp2_with fail
      refine (HPP.out Pr base g ts σ wr HM3.out (HLO.out.mono HBR.out.size) HR.out HN.out HL.out HE.out (pre_no HNX.out HNO.out)).mono ?_
      rintro e w4 ⟨v, σ', rfl, hm, hf, hp⟩
      have HX := Lib.hid (And.intro hm (And.intro (HF3.out.trans hf) hp))
      clear hm hf hp
      go_wp2_with fail
      refine bodyPost_ret (v := .int .i64 v) (by simp [results, Tryz.results93, go_sem]) rfl ?_
      exact ⟨_, _, rfl, HX.out.1, HX.out.2.1, HX.out.2.2⟩
    · have hk5 : k = 0 ∨ k = 1 ∨ k = 2 ∨ k = 3 ∨ k = 4 ∨ k = 5 := by omega
      clear hk hk6
      rcases hk5 with rfl | rfl | rfl | rfl | rfl | rfl
      · have HSK := Lib.hid (HSE.out 1 [112, 114, 101, 118])
        by_cases s2 : seesB 1 [112, 114, 101, 118] σ = true
        · rw [s2] at HSK
          have hy := (sees_yes s2).2
          have htx : textOf σ.rest ≠ [] := by rw [hy]; exact List.cons_ne_nil _ _
          have HMK := Lib.hid (make_ready (a := true) (b := true) (Or.inl rfl) HR.out (fun _ => htx))
          have HRD := Lib.hid (fun (lo hi : Int) (σ2 : RS) (hs : SpanPost 8 (makesF true true σ) lo hi σ2) (a : Int) (σ3 : RS) (hp : Post (.opd false) σ2 a σ3) => pre_post (g := false) (k := 8) HR.out HE.out (by rw [hy]; decide) (by decide) htx hs hp)
          clear s2 hy htx
          go_wp2_with fail
          refine (HSK.out _ HBR.out).mono ?_
          rintro e w3 ⟨rfl, hb⟩
          have HB3 := Lib.hid (HBR.out.trans (hb.mono HBR.out.size))
          clear hb
          have HM3 := Lib.hid (HM.out.later HB3.out)
          have HF3 := Lib.hid (Fp.later (Pr := Pr) HB3.out HM.out.low)
          go_wp2_with fail
          refine (refMakesU base g ts σ true true (Or.inl rfl) _ HM3.out HR.out.make HL.out).mono ?_
          rintro e w4 ⟨rfl, hm, hgr⟩
          have HM4 := Lib.hid hm
          have HF4 := Lib.hid (HF3.out.trans (HM3.out.fp hgr))
          clear hm hgr
          go_wp2_with fail
          refine (refSpan base g ts (makesF true true σ) w4 HM4.out (HLO.out.mono HF4.out.below.size) HMK.out.1 HL.out).mono ?_
          rintro e w5 ⟨lo, hi, σ2, rfl, hm, hf, hsp⟩
          have HSP := Lib.hid (hsp 8 (by decide) (by decide))
          have HF5 := Lib.hid (HF4.out.trans hf)
          have HRB := Lib.hid (HSP.out.ready HMK.out.1)
          have HMB := Lib.hid (hm.boxed (.cells #[.int .i64 lo, .int .i64 hi] 33))
          have HLB := Lib.hid (Lw.box (HLO.out.mono HF5.out.below.size) (.cells #[.int .i64 lo, .int .i64 hi] 33))
          have HBX := Lib.hid (Blk.new w5 #[.int .i64 lo, .int .i64 hi] 33 _ rfl)
          have HFB := Lib.hid (HF5.out.trans (Fp.later (Pr := Pr) ((Below.refl _ _).alloc (Nat.le_refl _) (.cells #[.int .i64 lo, .int .i64 hi] 33)) hm.low))
          clear hm hf hsp
          go_wp2_with fail
          refine (HUU.out _ base g ts σ2 _ HMB.out HLB.out HRB.out.1 (fun he => by have h1 := HRB.out.2 he; have h2 := (HMK.out.2 h1.1).2; have := HN.out; omega) HL.out).mono ?_
          rintro e w6 ⟨a, σ3, rfl, hm, hf, hp⟩
          have HR6 := Lib.hid (HRD.out lo hi σ2 HSP.out a σ3 hp)
          have HAV := Lib.hid hp.val
          obtain ⟨c4, f4⟩ := hm.deepc
          have hd1 := HR6.out.2.2.1
          have hd2 := HR6.out.2.2.2
          have hf6 := hf.trans (hm.fpg 4 (.int .i64 (σ3.deep - 1)))
          have hbx := hf6.box (b := w5.heap.size) (Or.inr rfl) HBX.out
          have b0 := hbx.cell 0 rfl
          have b1 := hbx.cell 1 rfl
          have HM6 := Lib.hid (hm.down.mono (Pr' := Pr) fun b _ hb hp => hb (Or.inl hp))
          have HF6 := Lib.hid (HFB.out.trans (hf6.mono fun b hb => Or.inl hb))
          clear hm hf hp hf6 hbx
          go_wp2_with fail
          refine (refEmit1 base g ts { σ3 with deep := σ3.deep - 1 } 8 lo hi a _ _ _ (by simp) HM6.out (HLO.out.mono HF6.out.below.size) (by decide) HSP.out.small HAV.out HR6.out.2.1).mono ?_
          rintro e w7 ⟨rfl, hm, hf⟩
          have HM7 := Lib.hid hm
          have HF7 := Lib.hid (HF6.out.trans hf)
          clear hm hf
          go_wp2_with fail
          refine bodyPost_ret (v := .int .i64 (σ3.nodes.length : Int)) (by simp [results, Tryz.results93, go_sem]) rfl ?_
          exact ⟨_, _, rfl, HM7.out, HF7.out, HR6.out.1⟩
        · rw [Bool.not_eq_true] at s2
          rw [s2] at HSK
          have HN2 := Lib.hid (show ∀ j : Nat, j < 0 + 1 → textOf σ.rest ≠ aheads.getD j [] by
            intro j hj
            by_cases hjk : j = 0
            · subst hjk
              rw [sees_word HE.out HGD.out (by decide), decide_eq_false_iff_not] at s2
              exact s2
            · exact HNO.out j (by omega))
          clear s2
          go_wp2_with fail
          refine (HSK.out _ HBR.out).mono ?_
          rintro e w3 ⟨rfl, hb⟩
          have HB3 := Lib.hid (HBR.out.trans (hb.mono HBR.out.size))
          clear hb
          go_wp2_with fail
          go_roundw
          case rel => exact ⟨0 + 1, by decide, rfl, HB3.out, HN2.out⟩
          case measure => decide
      · have HSK := Lib.hid (HSE.out 1 [110, 101, 120, 116])
        by_cases s2 : seesB 1 [110, 101, 120, 116] σ = true
        · rw [s2] at HSK
          have hy := (sees_yes s2).2
          have htx : textOf σ.rest ≠ [] := by rw [hy]; exact List.cons_ne_nil _ _
          have HMK := Lib.hid (make_ready (a := true) (b := true) (Or.inl rfl) HR.out (fun _ => htx))
          have HRD := Lib.hid (fun (lo hi : Int) (σ2 : RS) (hs : SpanPost 9 (makesF true true σ) lo hi σ2) (a : Int) (σ3 : RS) (hp : Post (.opd false) σ2 a σ3) => pre_post (g := false) (k := 9) HR.out HE.out (by rw [hy]; decide) (by decide) htx hs hp)
          clear s2 hy htx
          go_wp2_with fail
          refine (HSK.out _ HBR.out).mono ?_
          rintro e w3 ⟨rfl, hb⟩
          have HB3 := Lib.hid (HBR.out.trans (hb.mono HBR.out.size))
          clear hb
          have HM3 := Lib.hid (HM.out.later HB3.out)
          have HF3 := Lib.hid (Fp.later (Pr := Pr) HB3.out HM.out.low)
          go_wp2_with fail
          refine (refMakesU base g ts σ true true (Or.inl rfl) _ HM3.out HR.out.make HL.out).mono ?_
          rintro e w4 ⟨rfl, hm, hgr⟩
          have HM4 := Lib.hid hm
          have HF4 := Lib.hid (HF3.out.trans (HM3.out.fp hgr))
          clear hm hgr
          go_wp2_with fail
          refine (refSpan base g ts (makesF true true σ) w4 HM4.out (HLO.out.mono HF4.out.below.size) HMK.out.1 HL.out).mono ?_
          rintro e w5 ⟨lo, hi, σ2, rfl, hm, hf, hsp⟩
          have HSP := Lib.hid (hsp 9 (by decide) (by decide))
          have HF5 := Lib.hid (HF4.out.trans hf)
          have HRB := Lib.hid (HSP.out.ready HMK.out.1)
          have HMB := Lib.hid (hm.boxed (.cells #[.int .i64 lo, .int .i64 hi] 33))
          have HLB := Lib.hid (Lw.box (HLO.out.mono HF5.out.below.size) (.cells #[.int .i64 lo, .int .i64 hi] 33))
          have HBX := Lib.hid (Blk.new w5 #[.int .i64 lo, .int .i64 hi] 33 _ rfl)
          have HFB := Lib.hid (HF5.out.trans (Fp.later (Pr := Pr) ((Below.refl _ _).alloc (Nat.le_refl _) (.cells #[.int .i64 lo, .int .i64 hi] 33)) hm.low))
          clear hm hf hsp
          go_wp2_with fail
          refine (HUU.out _ base g ts σ2 _ HMB.out HLB.out HRB.out.1 (fun he => by have h1 := HRB.out.2 he; have h2 := (HMK.out.2 h1.1).2; have := HN.out; omega) HL.out).mono ?_
          rintro e w6 ⟨a, σ3, rfl, hm, hf, hp⟩
          have HR6 := Lib.hid (HRD.out lo hi σ2 HSP.out a σ3 hp)
          have HAV := Lib.hid hp.val
          obtain ⟨c4, f4⟩ := hm.deepc
          have hd1 := HR6.out.2.2.1
          have hd2 := HR6.out.2.2.2
          have hf6 := hf.trans (hm.fpg 4 (.int .i64 (σ3.deep - 1)))
          have hbx := hf6.box (b := w5.heap.size) (Or.inr rfl) HBX.out
          have b0 := hbx.cell 0 rfl
          have b1 := hbx.cell 1 rfl
          have HM6 := Lib.hid (hm.down.mono (Pr' := Pr) fun b _ hb hp => hb (Or.inl hp))
          have HF6 := Lib.hid (HFB.out.trans (hf6.mono fun b hb => Or.inl hb))
          clear hm hf hp hf6 hbx
          go_wp2_with fail
          refine (refEmit1 base g ts { σ3 with deep := σ3.deep - 1 } 9 lo hi a _ _ _ (by simp) HM6.out (HLO.out.mono HF6.out.below.size) (by decide) HSP.out.small HAV.out HR6.out.2.1).mono ?_
          rintro e w7 ⟨rfl, hm, hf⟩
          have HM7 := Lib.hid hm
          have HF7 := Lib.hid (HF6.out.trans hf)
          clear hm hf
          go_wp2_with fail
          refine bodyPost_ret (v := .int .i64 (σ3.nodes.length : Int)) (by simp [results, Tryz.results93, go_sem]) rfl ?_
          exact ⟨_, _, rfl, HM7.out, HF7.out, HR6.out.1⟩
        · rw [Bool.not_eq_true] at s2
          rw [s2] at HSK
          have HN2 := Lib.hid (show ∀ j : Nat, j < 1 + 1 → textOf σ.rest ≠ aheads.getD j [] by
            intro j hj
            by_cases hjk : j = 1
            · subst hjk
              rw [sees_word HE.out HGD.out (by decide), decide_eq_false_iff_not] at s2
              exact s2
            · exact HNO.out j (by omega))
          clear s2
          go_wp2_with fail
          refine (HSK.out _ HBR.out).mono ?_
          rintro e w3 ⟨rfl, hb⟩
          have HB3 := Lib.hid (HBR.out.trans (hb.mono HBR.out.size))
          clear hb
          go_wp2_with fail
          go_roundw
          case rel => exact ⟨1 + 1, by decide, rfl, HB3.out, HN2.out⟩
          case measure => decide
      · have HSK := Lib.hid (HSE.out 1 [111, 110, 99, 101])
        by_cases s2 : seesB 1 [111, 110, 99, 101] σ = true
        · rw [s2] at HSK
          have hy := (sees_yes s2).2
          have htx : textOf σ.rest ≠ [] := by rw [hy]; exact List.cons_ne_nil _ _
          have HMK := Lib.hid (make_ready (a := true) (b := true) (Or.inl rfl) HR.out (fun _ => htx))
          have HRD := Lib.hid (fun (lo hi : Int) (σ2 : RS) (hs : SpanPost 10 (makesF true true σ) lo hi σ2) (a : Int) (σ3 : RS) (hp : Post (.opd false) σ2 a σ3) => pre_post (g := false) (k := 10) HR.out HE.out (by rw [hy]; decide) (by decide) htx hs hp)
          clear s2 hy htx
          go_wp2_with fail
          refine (HSK.out _ HBR.out).mono ?_
          rintro e w3 ⟨rfl, hb⟩
          have HB3 := Lib.hid (HBR.out.trans (hb.mono HBR.out.size))
          clear hb
          have HM3 := Lib.hid (HM.out.later HB3.out)
          have HF3 := Lib.hid (Fp.later (Pr := Pr) HB3.out HM.out.low)
          go_wp2_with fail
          refine (refMakesU base g ts σ true true (Or.inl rfl) _ HM3.out HR.out.make HL.out).mono ?_
          rintro e w4 ⟨rfl, hm, hgr⟩
          have HM4 := Lib.hid hm
          have HF4 := Lib.hid (HF3.out.trans (HM3.out.fp hgr))
          clear hm hgr
          go_wp2_with fail
          refine (refSpan base g ts (makesF true true σ) w4 HM4.out (HLO.out.mono HF4.out.below.size) HMK.out.1 HL.out).mono ?_
          rintro e w5 ⟨lo, hi, σ2, rfl, hm, hf, hsp⟩
          have HSP := Lib.hid (hsp 10 (by decide) (by decide))
          have HF5 := Lib.hid (HF4.out.trans hf)
          have HRB := Lib.hid (HSP.out.ready HMK.out.1)
          have HMB := Lib.hid (hm.boxed (.cells #[.int .i64 lo, .int .i64 hi] 33))
          have HLB := Lib.hid (Lw.box (HLO.out.mono HF5.out.below.size) (.cells #[.int .i64 lo, .int .i64 hi] 33))
          have HBX := Lib.hid (Blk.new w5 #[.int .i64 lo, .int .i64 hi] 33 _ rfl)
          have HFB := Lib.hid (HF5.out.trans (Fp.later (Pr := Pr) ((Below.refl _ _).alloc (Nat.le_refl _) (.cells #[.int .i64 lo, .int .i64 hi] 33)) hm.low))
          clear hm hf hsp
          go_wp2_with fail
          refine (HUU.out _ base g ts σ2 _ HMB.out HLB.out HRB.out.1 (fun he => by have h1 := HRB.out.2 he; have h2 := (HMK.out.2 h1.1).2; have := HN.out; omega) HL.out).mono ?_
          rintro e w6 ⟨a, σ3, rfl, hm, hf, hp⟩
          have HR6 := Lib.hid (HRD.out lo hi σ2 HSP.out a σ3 hp)
          have HAV := Lib.hid hp.val
          obtain ⟨c4, f4⟩ := hm.deepc
          have hd1 := HR6.out.2.2.1
          have hd2 := HR6.out.2.2.2
          have hf6 := hf.trans (hm.fpg 4 (.int .i64 (σ3.deep - 1)))
          have hbx := hf6.box (b := w5.heap.size) (Or.inr rfl) HBX.out
          have b0 := hbx.cell 0 rfl
          have b1 := hbx.cell 1 rfl
          have HM6 := Lib.hid (hm.down.mono (Pr' := Pr) fun b _ hb hp => hb (Or.inl hp))
          have HF6 := Lib.hid (HFB.out.trans (hf6.mono fun b hb => Or.inl hb))
          clear hm hf hp hf6 hbx
          go_wp2_with fail
          refine (refEmit1 base g ts { σ3 with deep := σ3.deep - 1 } 10 lo hi a _ _ _ (by simp) HM6.out (HLO.out.mono HF6.out.below.size) (by decide) HSP.out.small HAV.out HR6.out.2.1).mono ?_
          rintro e w7 ⟨rfl, hm, hf⟩
          have HM7 := Lib.hid hm
          have HF7 := Lib.hid (HF6.out.trans hf)
          clear hm hf
          go_wp2_with fail
          refine bodyPost_ret (v := .int .i64 (σ3.nodes.length : Int)) (by simp [results, Tryz.results93, go_sem]) rfl ?_
          exact ⟨_, _, rfl, HM7.out, HF7.out, HR6.out.1⟩
        · rw [Bool.not_eq_true] at s2
          rw [s2] at HSK
          have HN2 := Lib.hid (show ∀ j : Nat, j < 2 + 1 → textOf σ.rest ≠ aheads.getD j [] by
            intro j hj
            by_cases hjk : j = 2
            · subst hjk
              rw [sees_word HE.out HGD.out (by decide), decide_eq_false_iff_not] at s2
              exact s2
            · exact HNO.out j (by omega))
          clear s2
          go_wp2_with fail
          refine (HSK.out _ HBR.out).mono ?_
          rintro e w3 ⟨rfl, hb⟩
          have HB3 := Lib.hid (HBR.out.trans (hb.mono HBR.out.size))
          clear hb
          go_wp2_with fail
          go_roundw
          case rel => exact ⟨2 + 1, by decide, rfl, HB3.out, HN2.out⟩
          case measure => decide
      · have HSK := Lib.hid (HSE.out 1 [104, 105, 115, 116])
        by_cases s2 : seesB 1 [104, 105, 115, 116] σ = true
        · rw [s2] at HSK
          have hy := (sees_yes s2).2
          have htx : textOf σ.rest ≠ [] := by rw [hy]; exact List.cons_ne_nil _ _
          have HMK := Lib.hid (make_ready (a := true) (b := true) (Or.inl rfl) HR.out (fun _ => htx))
          have HRD := Lib.hid (fun (lo hi : Int) (σ2 : RS) (hs : SpanPost 11 (makesF true true σ) lo hi σ2) (a : Int) (σ3 : RS) (hp : Post (.opd false) σ2 a σ3) => pre_post (g := false) (k := 11) HR.out HE.out (by rw [hy]; decide) (by decide) htx hs hp)
          clear s2 hy htx
          go_wp2_with fail
          refine (HSK.out _ HBR.out).mono ?_
          rintro e w3 ⟨rfl, hb⟩
          have HB3 := Lib.hid (HBR.out.trans (hb.mono HBR.out.size))
          clear hb
          have HM3 := Lib.hid (HM.out.later HB3.out)
          have HF3 := Lib.hid (Fp.later (Pr := Pr) HB3.out HM.out.low)
          go_wp2_with fail
          refine (refMakesU base g ts σ true true (Or.inl rfl) _ HM3.out HR.out.make HL.out).mono ?_
          rintro e w4 ⟨rfl, hm, hgr⟩
          have HM4 := Lib.hid hm
          have HF4 := Lib.hid (HF3.out.trans (HM3.out.fp hgr))
          clear hm hgr
          go_wp2_with fail
          refine (refSpan base g ts (makesF true true σ) w4 HM4.out (HLO.out.mono HF4.out.below.size) HMK.out.1 HL.out).mono ?_
          rintro e w5 ⟨lo, hi, σ2, rfl, hm, hf, hsp⟩
          have HSP := Lib.hid (hsp 11 (by decide) (by decide))
          have HF5 := Lib.hid (HF4.out.trans hf)
          have HRB := Lib.hid (HSP.out.ready HMK.out.1)
          have HMB := Lib.hid (hm.boxed (.cells #[.int .i64 lo, .int .i64 hi] 33))
          have HLB := Lib.hid (Lw.box (HLO.out.mono HF5.out.below.size) (.cells #[.int .i64 lo, .int .i64 hi] 33))
          have HBX := Lib.hid (Blk.new w5 #[.int .i64 lo, .int .i64 hi] 33 _ rfl)
          have HFB := Lib.hid (HF5.out.trans (Fp.later (Pr := Pr) ((Below.refl _ _).alloc (Nat.le_refl _) (.cells #[.int .i64 lo, .int .i64 hi] 33)) hm.low))
          clear hm hf hsp
          go_wp2_with fail
          refine (HUU.out _ base g ts σ2 _ HMB.out HLB.out HRB.out.1 (fun he => by have h1 := HRB.out.2 he; have h2 := (HMK.out.2 h1.1).2; have := HN.out; omega) HL.out).mono ?_
          rintro e w6 ⟨a, σ3, rfl, hm, hf, hp⟩
          have HR6 := Lib.hid (HRD.out lo hi σ2 HSP.out a σ3 hp)
          have HAV := Lib.hid hp.val
          obtain ⟨c4, f4⟩ := hm.deepc
          have hd1 := HR6.out.2.2.1
          have hd2 := HR6.out.2.2.2
          have hf6 := hf.trans (hm.fpg 4 (.int .i64 (σ3.deep - 1)))
          have hbx := hf6.box (b := w5.heap.size) (Or.inr rfl) HBX.out
          have b0 := hbx.cell 0 rfl
          have b1 := hbx.cell 1 rfl
          have HM6 := Lib.hid (hm.down.mono (Pr' := Pr) fun b _ hb hp => hb (Or.inl hp))
          have HF6 := Lib.hid (HFB.out.trans (hf6.mono fun b hb => Or.inl hb))
          clear hm hf hp hf6 hbx
          go_wp2_with fail
          refine (refEmit1 base g ts { σ3 with deep := σ3.deep - 1 } 11 lo hi a _ _ _ (by simp) HM6.out (HLO.out.mono HF6.out.below.size) (by decide) HSP.out.small HAV.out HR6.out.2.1).mono ?_
          rintro e w7 ⟨rfl, hm, hf⟩
          have HM7 := Lib.hid hm
          have HF7 := Lib.hid (HF6.out.trans hf)
          clear hm hf
          go_wp2_with fail
          refine bodyPost_ret (v := .int .i64 (σ3.nodes.length : Int)) (by simp [results, Tryz.results93, go_sem]) rfl ?_
          exact ⟨_, _, rfl, HM7.out, HF7.out, HR6.out.1⟩
        · rw [Bool.not_eq_true] at s2
          rw [s2] at HSK
          have HN2 := Lib.hid (show ∀ j : Nat, j < 3 + 1 → textOf σ.rest ≠ aheads.getD j [] by
            intro j hj
            by_cases hjk : j = 3
            · subst hjk
              rw [sees_word HE.out HGD.out (by decide), decide_eq_false_iff_not] at s2
              exact s2
            · exact HNO.out j (by omega))
          clear s2
          go_wp2_with fail
          refine (HSK.out _ HBR.out).mono ?_
          rintro e w3 ⟨rfl, hb⟩
          have HB3 := Lib.hid (HBR.out.trans (hb.mono HBR.out.size))
          clear hb
          go_wp2_with fail
          go_roundw
          case rel => exact ⟨3 + 1, by decide, rfl, HB3.out, HN2.out⟩
          case measure => decide
      · have HSK := Lib.hid (HSE.out 1 [115, 111, 109, 101])
        by_cases s2 : seesB 1 [115, 111, 109, 101] σ = true
        · rw [s2] at HSK
          have hy := (sees_yes s2).2
          have htx : textOf σ.rest ≠ [] := by rw [hy]; exact List.cons_ne_nil _ _
          have HMK := Lib.hid (make_ready (a := true) (b := true) (Or.inl rfl) HR.out (fun _ => htx))
          have HRD := Lib.hid (fun (lo hi : Int) (σ2 : RS) (hs : SpanPost 12 (makesF true true σ) lo hi σ2) (a : Int) (σ3 : RS) (hp : Post (.opd false) σ2 a σ3) => pre_post (g := false) (k := 12) HR.out HE.out (by rw [hy]; decide) (by decide) htx hs hp)
          clear s2 hy htx
          go_wp2_with fail
          refine (HSK.out _ HBR.out).mono ?_
          rintro e w3 ⟨rfl, hb⟩
          have HB3 := Lib.hid (HBR.out.trans (hb.mono HBR.out.size))
          clear hb
          have HM3 := Lib.hid (HM.out.later HB3.out)
          have HF3 := Lib.hid (Fp.later (Pr := Pr) HB3.out HM.out.low)
          go_wp2_with fail
          refine (refMakesU base g ts σ true true (Or.inl rfl) _ HM3.out HR.out.make HL.out).mono ?_
          rintro e w4 ⟨rfl, hm, hgr⟩
          have HM4 := Lib.hid hm
          have HF4 := Lib.hid (HF3.out.trans (HM3.out.fp hgr))
          clear hm hgr
          go_wp2_with fail
          refine (refSpan base g ts (makesF true true σ) w4 HM4.out (HLO.out.mono HF4.out.below.size) HMK.out.1 HL.out).mono ?_
          rintro e w5 ⟨lo, hi, σ2, rfl, hm, hf, hsp⟩
          have HSP := Lib.hid (hsp 12 (by decide) (by decide))
          have HF5 := Lib.hid (HF4.out.trans hf)
          have HRB := Lib.hid (HSP.out.ready HMK.out.1)
          have HMB := Lib.hid (hm.boxed (.cells #[.int .i64 lo, .int .i64 hi] 33))
          have HLB := Lib.hid (Lw.box (HLO.out.mono HF5.out.below.size) (.cells #[.int .i64 lo, .int .i64 hi] 33))
          have HBX := Lib.hid (Blk.new w5 #[.int .i64 lo, .int .i64 hi] 33 _ rfl)
          have HFB := Lib.hid (HF5.out.trans (Fp.later (Pr := Pr) ((Below.refl _ _).alloc (Nat.le_refl _) (.cells #[.int .i64 lo, .int .i64 hi] 33)) hm.low))
          clear hm hf hsp
          go_wp2_with fail
          refine (HUU.out _ base g ts σ2 _ HMB.out HLB.out HRB.out.1 (fun he => by have h1 := HRB.out.2 he; have h2 := (HMK.out.2 h1.1).2; have := HN.out; omega) HL.out).mono ?_
          rintro e w6 ⟨a, σ3, rfl, hm, hf, hp⟩
          have HR6 := Lib.hid (HRD.out lo hi σ2 HSP.out a σ3 hp)
          have HAV := Lib.hid hp.val
          obtain ⟨c4, f4⟩ := hm.deepc
          have hd1 := HR6.out.2.2.1
          have hd2 := HR6.out.2.2.2
          have hf6 := hf.trans (hm.fpg 4 (.int .i64 (σ3.deep - 1)))
          have hbx := hf6.box (b := w5.heap.size) (Or.inr rfl) HBX.out
          have b0 := hbx.cell 0 rfl
          have b1 := hbx.cell 1 rfl
          have HM6 := Lib.hid (hm.down.mono (Pr' := Pr) fun b _ hb hp => hb (Or.inl hp))
          have HF6 := Lib.hid (HFB.out.trans (hf6.mono fun b hb => Or.inl hb))
          clear hm hf hp hf6 hbx
          go_wp2_with fail
          refine (refEmit1 base g ts { σ3 with deep := σ3.deep - 1 } 12 lo hi a _ _ _ (by simp) HM6.out (HLO.out.mono HF6.out.below.size) (by decide) HSP.out.small HAV.out HR6.out.2.1).mono ?_
          rintro e w7 ⟨rfl, hm, hf⟩
          have HM7 := Lib.hid hm
          have HF7 := Lib.hid (HF6.out.trans hf)
          clear hm hf
          go_wp2_with fail
          refine bodyPost_ret (v := .int .i64 (σ3.nodes.length : Int)) (by simp [results, Tryz.results93, go_sem]) rfl ?_
          exact ⟨_, _, rfl, HM7.out, HF7.out, HR6.out.1⟩
        · rw [Bool.not_eq_true] at s2
          rw [s2] at HSK
          have HN2 := Lib.hid (show ∀ j : Nat, j < 4 + 1 → textOf σ.rest ≠ aheads.getD j [] by
            intro j hj
            by_cases hjk : j = 4
            · subst hjk
              rw [sees_word HE.out HGD.out (by decide), decide_eq_false_iff_not] at s2
              exact s2
            · exact HNO.out j (by omega))
          clear s2
          go_wp2_with fail
          refine (HSK.out _ HBR.out).mono ?_
          rintro e w3 ⟨rfl, hb⟩
          have HB3 := Lib.hid (HBR.out.trans (hb.mono HBR.out.size))
          clear hb
          go_wp2_with fail
          go_roundw
          case rel => exact ⟨4 + 1, by decide, rfl, HB3.out, HN2.out⟩
          case measure => decide
      · have HSK := Lib.hid (HSE.out 1 [97, 108, 108])
        by_cases s2 : seesB 1 [97, 108, 108] σ = true
        · rw [s2] at HSK
          have hy := (sees_yes s2).2
          have htx : textOf σ.rest ≠ [] := by rw [hy]; exact List.cons_ne_nil _ _
          have HMK := Lib.hid (make_ready (a := true) (b := true) (Or.inl rfl) HR.out (fun _ => htx))
          have HRD := Lib.hid (fun (lo hi : Int) (σ2 : RS) (hs : SpanPost 13 (makesF true true σ) lo hi σ2) (a : Int) (σ3 : RS) (hp : Post (.opd false) σ2 a σ3) => pre_post (g := false) (k := 13) HR.out HE.out (by rw [hy]; decide) (by decide) htx hs hp)
          clear s2 hy htx
          go_wp2_with fail
          refine (HSK.out _ HBR.out).mono ?_
          rintro e w3 ⟨rfl, hb⟩
          have HB3 := Lib.hid (HBR.out.trans (hb.mono HBR.out.size))
          clear hb
          have HM3 := Lib.hid (HM.out.later HB3.out)
          have HF3 := Lib.hid (Fp.later (Pr := Pr) HB3.out HM.out.low)
          go_wp2_with fail
          refine (refMakesU base g ts σ true true (Or.inl rfl) _ HM3.out HR.out.make HL.out).mono ?_
          rintro e w4 ⟨rfl, hm, hgr⟩
          have HM4 := Lib.hid hm
          have HF4 := Lib.hid (HF3.out.trans (HM3.out.fp hgr))
          clear hm hgr
          go_wp2_with fail
          refine (refSpan base g ts (makesF true true σ) w4 HM4.out (HLO.out.mono HF4.out.below.size) HMK.out.1 HL.out).mono ?_
          rintro e w5 ⟨lo, hi, σ2, rfl, hm, hf, hsp⟩
          have HSP := Lib.hid (hsp 13 (by decide) (by decide))
          have HF5 := Lib.hid (HF4.out.trans hf)
          have HRB := Lib.hid (HSP.out.ready HMK.out.1)
          have HMB := Lib.hid (hm.boxed (.cells #[.int .i64 lo, .int .i64 hi] 33))
          have HLB := Lib.hid (Lw.box (HLO.out.mono HF5.out.below.size) (.cells #[.int .i64 lo, .int .i64 hi] 33))
          have HBX := Lib.hid (Blk.new w5 #[.int .i64 lo, .int .i64 hi] 33 _ rfl)
          have HFB := Lib.hid (HF5.out.trans (Fp.later (Pr := Pr) ((Below.refl _ _).alloc (Nat.le_refl _) (.cells #[.int .i64 lo, .int .i64 hi] 33)) hm.low))
          clear hm hf hsp
          go_wp2_with fail
          refine (HUU.out _ base g ts σ2 _ HMB.out HLB.out HRB.out.1 (fun he => by have h1 := HRB.out.2 he; have h2 := (HMK.out.2 h1.1).2; have := HN.out; omega) HL.out).mono ?_
          rintro e w6 ⟨a, σ3, rfl, hm, hf, hp⟩
          have HR6 := Lib.hid (HRD.out lo hi σ2 HSP.out a σ3 hp)
          have HAV := Lib.hid hp.val
          obtain ⟨c4, f4⟩ := hm.deepc
          have hd1 := HR6.out.2.2.1
          have hd2 := HR6.out.2.2.2
          have hf6 := hf.trans (hm.fpg 4 (.int .i64 (σ3.deep - 1)))
          have hbx := hf6.box (b := w5.heap.size) (Or.inr rfl) HBX.out
          have b0 := hbx.cell 0 rfl
          have b1 := hbx.cell 1 rfl
          have HM6 := Lib.hid (hm.down.mono (Pr' := Pr) fun b _ hb hp => hb (Or.inl hp))
          have HF6 := Lib.hid (HFB.out.trans (hf6.mono fun b hb => Or.inl hb))
          clear hm hf hp hf6 hbx
          go_wp2_with fail
          refine (refEmit1 base g ts { σ3 with deep := σ3.deep - 1 } 13 lo hi a _ _ _ (by simp) HM6.out (HLO.out.mono HF6.out.below.size) (by decide) HSP.out.small HAV.out HR6.out.2.1).mono ?_
          rintro e w7 ⟨rfl, hm, hf⟩
          have HM7 := Lib.hid hm
          have HF7 := Lib.hid (HF6.out.trans hf)
          clear hm hf
          go_wp2_with fail
          refine bodyPost_ret (v := .int .i64 (σ3.nodes.length : Int)) (by simp [results, Tryz.results93, go_sem]) rfl ?_
          exact ⟨_, _, rfl, HM7.out, HF7.out, HR6.out.1⟩
        · rw [Bool.not_eq_true] at s2
          rw [s2] at HSK
          have HN2 := Lib.hid (show ∀ j : Nat, j < 5 + 1 → textOf σ.rest ≠ aheads.getD j [] by
            intro j hj
            by_cases hjk : j = 5
            · subst hjk
              rw [sees_word HE.out HGD.out (by decide), decide_eq_false_iff_not] at s2
              exact s2
            · exact HNO.out j (by omega))
          clear s2
          go_wp2_with fail
          refine (HSK.out _ HBR.out).mono ?_
          rintro e w3 ⟨rfl, hb⟩
          have HB3 := Lib.hid (HBR.out.trans (hb.mono HBR.out.size))
          clear hb
          go_wp2_with fail
          go_roundw
          case rel => exact ⟨5 + 1, by decide, rfl, HB3.out, HN2.out⟩
          case measure => decide
end Go.Proofs.YtnoghlhggeffnaaGreatDoor.Parse
