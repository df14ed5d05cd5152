/-
  The walk of the reference's tie. By an AI agent.
  The walk of the reference's one. By an AI agent.
-/
import Derived.Test.YtnoghlhggeffnaaGreatDoorGParseSpoilt31
namespace Go.Proofs.YtnoghlhggeffnaaGreatDoor.Parse
open Go.RowKit Go.Proofs.YtnoghlhggeffnaaGreatDoor.Ints Go.Proofs.YtnoghlhggeffnaaGreatDoor.Lex Go.Proofs.YtnoghlhggeffnaaGreatDoor.Tree

theorem Fp.box {Pr : Nat → Prop} {base b : Nat} {w w' : World} {vs : List Value} (h : Fp Pr base w w') (hp : Pr b) (hb : Blk w b vs) : Blk w' b vs := hb.same h.below.size (h.far b hp hb.1)
theorem word_not {k : Nat} {u v : List UInt8} {σ : RS} (hs : seesB k u σ = true) (huv : u ≠ v) : seesB k v σ = false := by
  rw [← Bool.not_eq_true]
  intro h
  exact huv ((sees_yes hs).2.symm.trans (sees_yes h).2)
theorem Lw.box {Pr : Nat → Prop} {w : World} (h : Lw Pr w) (o : Obj) : Lw (fun b => Pr b ∨ b = w.heap.size) (w.alloc o) := fun b hb => by
  rcases hb with hb | hb
  · have := h b hb; simp; omega
  · simp; omega
set_option maxHeartbeats 16000000 in
theorem refTie (n : Nat) (H : Part 93 (.opd false) n) : Part 73 (.row false 3) n := by
  intro Pr base g ts σ w h hlow hr hn hl
  have HL := Lib.hid hl
  have HLO := Lib.hid hlow
  have HR := Lib.hid hr
  have HN := Lib.hid hn
  have HB := Lib.hid h.low
  have HOP := Lib.hid H
  have HIN := Lib.hid (H Pr base g ts σ w h hlow hr hn hl)
  clear h hlow hr hn hl
  go_enter Tryz.func73, Tryz.ntmps73
  go_wp2_with fail
  refine HIN.out.mono ?_
  rintro e w1 ⟨a0, σ1, rfl, hm1, hf1, hp1⟩
  have HM1 := Lib.hid hm1
  have HF1 := Lib.hid hf1
  have HP1 := Lib.hid ((hp1.as fun _ _ _ h => D.rowUn h).startRow (g := false) (l := 3) (by decide))
  clear hm1 hf1 hp1
  go_wp2_with fail
  go_loopw [3] (fun av wr => ∃ (a : Int) (τ : RS), av = .int .i64 a ∧ Hid (RMemE Pr wr base g ts τ) ∧ Hid (Fp Pr base w wr) ∧ Hid (Loop (.row false 3) (.ops false 3) σ τ a)) (fun _ wr => leftAt wr g ts.length)
  case atStart => exact ⟨a0, σ1, rfl, HM1.out, HF1.out, HP1.out⟩
  case round =>
    obtain ⟨a, τ, rfl, HM, HF, HLP⟩ := hrel
    have HSE := Lib.hid (fun wx (hb : Below wr.heap.size wr wx) => refSeesU base g ts τ 1 [115, 105, 110, 99, 101] wx (HM.out.later hb) (HLP.out.some HR.out) HL.out)
    have HSU := Lib.hid (fun wx (hb : Below wr.heap.size wr wx) => refSeesU base g ts τ 1 [117, 110, 116, 105, 108] wx (HM.out.later hb) (HLP.out.some HR.out) HL.out)
    by_cases hs : seesB 1 [115, 105, 110, 99, 101] τ = true
    · rw [hs] at HSE
      rw [word_not hs (by decide)] at HSU
      have HRY := Lib.hid ((HLP.out.open (sees_yes hs).1).1.ready HR.out (HLP.out.open (sees_yes hs).1).2)
      have htx : textOf τ.rest ≠ [] := by rw [(sees_yes hs).2]; exact List.cons_ne_nil _ _
      have HMK := Lib.hid (make_ready (a := true) (b := false) (Or.inl rfl) HRY.out (fun _ => htx))
      have HRD := Lib.hid (fun (lo hi : Int) (σ2 : RS) (hsp : SpanPost 14 (makesF true false τ) lo hi σ2) (b : Int) (σ3 : RS) (hp : Post (.row false (3 + 1)) σ2 b σ3) => ops_round (k := 14) HLP.out HR.out (sees_yes hs).1 (by rw [(sees_yes hs).2]; decide) (by decide) htx hsp hp)
      have HLN := Lib.hid (show τ.rest.length ≤ n from Nat.le_trans (HLP.out.open (sees_yes hs).1).1.less (HN.out (HLP.out.open (sees_yes hs).1).2))
      have HLE := Lib.hid (sees_yes hs).1
      have HAV := Lib.hid HLP.out.val
      clear hs htx
      go_wp2_with fail
      refine (HSE.out _ (Below.refl _ _)).mono ?_
      rintro e w2 ⟨rfl, hb⟩
      have HB2 := Lib.hid hb
      clear hb
      go_wp2_with fail
      refine (HSU.out _ HB2.out).mono ?_
      rintro e w3 ⟨rfl, hb⟩
      have HB3 := Lib.hid (HB2.out.trans (hb.mono HB2.out.size))
      clear hb
      have HM3 := Lib.hid (HM.out.later HB3.out)
      have HF3 := Lib.hid (HF.out.trans (Fp.later HB3.out HM.out.low))
      go_wp2_with fail
      refine (refMakesU base g ts τ true false (Or.inl rfl) _ HM3.out HRY.out.make HL.out).mono ?_
      rintro e w4 ⟨rfl, hm, hgr⟩
      have HM4 := Lib.hid hm
      have HF4 := Lib.hid (HF3.out.trans (HM3.out.fp hgr))
      clear hm hgr
      go_wp2_with fail
      refine (refSpan base g ts (makesF true false τ) w4 HM4.out (HLO.out.mono HF4.out.below.size) HMK.out.1 HL.out).mono ?_
      rintro e w5 ⟨lo, hi, σ2, rfl, hm, hf, hsp⟩
      have HSP := Lib.hid (hsp 14 (by decide) (by decide))
      have HM5 := Lib.hid hm
      have HF5 := Lib.hid (HF4.out.trans hf)
      have HRB := Lib.hid (HSP.out.ready HMK.out.1)
      have HMB := Lib.hid (hm.boxed (.cells #[.int .i64 lo, .int .i64 hi] 33))
      have HLB := Lib.hid (Lw.box (HLO.out.mono HF5.out.below.size) (.cells #[.int .i64 lo, .int .i64 hi] 33))
      have HBX := Lib.hid (Blk.new w5 #[.int .i64 lo, .int .i64 hi] 33 _ rfl)
      have HFB := Lib.hid (HF5.out.trans (Fp.later (Pr := Pr) ((Below.refl _ _).alloc (Nat.le_refl _) (.cells #[.int .i64 lo, .int .i64 hi] 33)) hm.low))
      clear hm hf hsp
      go_wp2_with fail
      refine (HOP.out _ base g ts σ2 _ HMB.out HLB.out HRB.out.1 (fun he => by have h1 := HRB.out.2 he; have h2 := (HMK.out.2 h1.1).2; have := HLN.out; omega) HL.out).mono ?_
      rintro e w6 ⟨b, σ3, rfl, hm, hf, hp⟩
      have hbx := hf.box (b := w5.heap.size) (Or.inr rfl) HBX.out
      have c0 := hbx.cell 0 rfl
      have c1 := hbx.cell 1 rfl
      have HM6 := Lib.hid (hm.mono (Pr' := Pr) fun b _ hb hp => hb (Or.inl hp))
      have HF6 := Lib.hid (HFB.out.trans (hf.mono fun b hb => Or.inl hb))
      have HR6 := Lib.hid (HRD.out lo hi σ2 HSP.out b σ3 (hp.as fun _ _ _ h => D.rowUn h))
      have HBV := Lib.hid hp.val
      clear hm hf hp hbx
      go_wp2_with fail
      refine (refEmit2 base g ts σ3 14 lo hi a b _ w6 _ rfl HM6.out (HLO.out.mono HF6.out.below.size) (by decide) HSP.out.small HAV.out HBV.out HR6.out.2.1).mono ?_
      rintro e w7 ⟨rfl, hm, hf⟩
      have HM7 := Lib.hid hm
      have HF7 := Lib.hid (HF6.out.trans hf)
      clear hm hf
      go_wp2_with fail
      go_roundw
      case rel => exact ⟨_, _, rfl, HM7.out, HF7.out, HR6.out.1⟩
      case measure =>
        rw [HM7.out.left, HM.out.left, if_pos HLE.out]
        split
        · next he => have := HR6.out.2.2 he; show σ3.rest.length + 1 < _; omega
        · omega
    · rw [Bool.not_eq_true] at hs
      rw [hs] at HSE
      by_cases hs2 : seesB 1 [117, 110, 116, 105, 108] τ = true
      · rw [hs2] at HSU
        clear hs
        have hs := hs2
        clear hs2
        have HRY := Lib.hid ((HLP.out.open (sees_yes hs).1).1.ready HR.out (HLP.out.open (sees_yes hs).1).2)
        have htx : textOf τ.rest ≠ [] := by rw [(sees_yes hs).2]; exact List.cons_ne_nil _ _
        have HMK := Lib.hid (make_ready (a := true) (b := false) (Or.inl rfl) HRY.out (fun _ => htx))
        have HRD := Lib.hid (fun (lo hi : Int) (σ2 : RS) (hsp : SpanPost 15 (makesF true false τ) lo hi σ2) (b : Int) (σ3 : RS) (hp : Post (.row false (3 + 1)) σ2 b σ3) => ops_round (k := 15) HLP.out HR.out (sees_yes hs).1 (by rw [(sees_yes hs).2]; decide) (by decide) htx hsp hp)
        have HLN := Lib.hid (show τ.rest.length ≤ n from Nat.le_trans (HLP.out.open (sees_yes hs).1).1.less (HN.out (HLP.out.open (sees_yes hs).1).2))
        have HLE := Lib.hid (sees_yes hs).1
        have HAV := Lib.hid HLP.out.val
        clear hs htx
        go_wp2_with fail
        refine (HSE.out _ (Below.refl _ _)).mono ?_
        rintro e w2 ⟨rfl, hb⟩
        have HB2 := Lib.hid hb
        clear hb
        go_wp2_with fail
        refine (HSU.out _ HB2.out).mono ?_
        rintro e w2' ⟨rfl, hb⟩
        have HB2' := Lib.hid (HB2.out.trans (hb.mono HB2.out.size))
        clear hb
        go_wp2_with fail
        refine (HSU.out _ HB2'.out).mono ?_
        rintro e w3 ⟨rfl, hb⟩
        have HB3 := Lib.hid (HB2'.out.trans (hb.mono HB2'.out.size))
        clear hb
        have HM3 := Lib.hid (HM.out.later HB3.out)
        have HF3 := Lib.hid (HF.out.trans (Fp.later HB3.out HM.out.low))
        go_wp2_with fail
        refine (refMakesU base g ts τ true false (Or.inl rfl) _ HM3.out HRY.out.make HL.out).mono ?_
        rintro e w4 ⟨rfl, hm, hgr⟩
        have HM4 := Lib.hid hm
        have HF4 := Lib.hid (HF3.out.trans (HM3.out.fp hgr))
        clear hm hgr
        go_wp2_with fail
        refine (refSpan base g ts (makesF true false τ) w4 HM4.out (HLO.out.mono HF4.out.below.size) HMK.out.1 HL.out).mono ?_
        rintro e w5 ⟨lo, hi, σ2, rfl, hm, hf, hsp⟩
        have HSP := Lib.hid (hsp 15 (by decide) (by decide))
        have HM5 := Lib.hid hm
        have HF5 := Lib.hid (HF4.out.trans hf)
        have HRB := Lib.hid (HSP.out.ready HMK.out.1)
        have HMB := Lib.hid (hm.boxed (.cells #[.int .i64 lo, .int .i64 hi] 33))
        have HLB := Lib.hid (Lw.box (HLO.out.mono HF5.out.below.size) (.cells #[.int .i64 lo, .int .i64 hi] 33))
        have HBX := Lib.hid (Blk.new w5 #[.int .i64 lo, .int .i64 hi] 33 _ rfl)
        have HFB := Lib.hid (HF5.out.trans (Fp.later (Pr := Pr) ((Below.refl _ _).alloc (Nat.le_refl _) (.cells #[.int .i64 lo, .int .i64 hi] 33)) hm.low))
        clear hm hf hsp
        go_wp2_with fail
        refine (HOP.out _ base g ts σ2 _ HMB.out HLB.out HRB.out.1 (fun he => by have h1 := HRB.out.2 he; have h2 := (HMK.out.2 h1.1).2; have := HLN.out; omega) HL.out).mono ?_
        rintro e w6 ⟨b, σ3, rfl, hm, hf, hp⟩
        have hbx := hf.box (b := w5.heap.size) (Or.inr rfl) HBX.out
        have c0 := hbx.cell 0 rfl
        have c1 := hbx.cell 1 rfl
        have HM6 := Lib.hid (hm.mono (Pr' := Pr) fun b _ hb hp => hb (Or.inl hp))
        have HF6 := Lib.hid (HFB.out.trans (hf.mono fun b hb => Or.inl hb))
        have HR6 := Lib.hid (HRD.out lo hi σ2 HSP.out b σ3 (hp.as fun _ _ _ h => D.rowUn h))
        have HBV := Lib.hid hp.val
        clear hm hf hp hbx
        go_wp2_with fail
        refine (refEmit2 base g ts σ3 15 lo hi a b _ w6 _ rfl HM6.out (HLO.out.mono HF6.out.below.size) (by decide) HSP.out.small HAV.out HBV.out HR6.out.2.1).mono ?_
        rintro e w7 ⟨rfl, hm, hf⟩
        have HM7 := Lib.hid hm
        have HF7 := Lib.hid (HF6.out.trans hf)
        clear hm hf
        go_wp2_with fail
        go_roundw
        case rel => exact ⟨_, _, rfl, HM7.out, HF7.out, HR6.out.1⟩
        case measure =>
          rw [HM7.out.left, HM.out.left, if_pos HLE.out]
          split
          · next he => have := HR6.out.2.2 he; show σ3.rest.length + 1 < _; omega
          · omega
      · have HST := Lib.hid (HLP.out.stop (fun he d => D.opsEnd (s := ⟨τ.rest, τ.made, τ.nodes⟩) (by
          have h1 := HLP.out.open he
          rw [Bool.not_eq_true, sees_word he h1.1.good (by decide), decide_eq_false_iff_not] at hs2
          rw [sees_word he h1.1.good (by decide), decide_eq_false_iff_not] at hs
          exact op_no3 hs hs2)))
        rw [Bool.not_eq_true] at hs2
        rw [hs2] at HSU
        clear hs hs2
        go_wp2_with fail
        refine (HSE.out _ (Below.refl _ _)).mono ?_
        rintro e w2 ⟨rfl, hb⟩
        have HB2 := Lib.hid hb
        clear hb
        go_wp2_with fail
        refine (HSU.out _ HB2.out).mono ?_
        rintro e w3 ⟨rfl, hb⟩
        have HB3 := Lib.hid (HB2.out.trans (hb.mono HB2.out.size))
        clear hb
        have HM2 := Lib.hid (HM.out.later HB3.out)
        have HF2 := Lib.hid (HF.out.trans (Fp.later HB3.out HM.out.low))
        go_wp2_with fail
        go_ret
        exact ⟨a, τ, rfl, HM2.out, HF2.out, HST.out⟩
end Go.Proofs.YtnoghlhggeffnaaGreatDoor.Parse

namespace Go.Proofs.YtnoghlhggeffnaaGreatDoor.Parse
open Go.RowKit Go.Proofs.YtnoghlhggeffnaaGreatDoor.Ints Go.Proofs.YtnoghlhggeffnaaGreatDoor.Lex Go.Proofs.YtnoghlhggeffnaaGreatDoor.Tree

theorem RMemE.deepc {Pr : Nat → Prop} {w : World} {base g : Nat} {ts : List Tk} {σ : RS} (h : RMemE Pr w base g ts σ) : w.cell? ⟨g, 4, none⟩ = some (.int .i64 σ.deep) ∧ w.frozen? ⟨g, 4, none⟩ = false := by
  obtain ⟨tv, lv, SN, h⟩ := h
  exact ⟨h.blk.cell 4 rfl, h.blk.fz 4 rfl⟩
theorem RMemE.errc {Pr : Nat → Prop} {w : World} {base g : Nat} {ts : List Tk} {σ : RS} (h : RMemE Pr w base g ts σ) : w.cell? ⟨g, 5, none⟩ = some (.int .i64 (σ.err : Int)) := by
  obtain ⟨tv, lv, SN, h⟩ := h
  exact h.blk.cell 5 rfl
theorem RMemE.down {Pr : Nat → Prop} {w : World} {base g : Nat} {ts : List Tk} {σ : RS} (h : RMemE Pr w base g ts σ) : RMemE Pr (w.setCell ⟨g, 4, none⟩ (.int .i64 (σ.deep - 1))) base g ts { σ with deep := σ.deep - 1 } := by
  obtain ⟨tv, lv, SN, h⟩ := h
  exact ⟨tv, lv, SN, h.store 4 _ rfl (by decide) h.suf rfl⟩
theorem RMemE.fpg {Pr : Nat → Prop} {w : World} {base g : Nat} {ts : List Tk} {σ : RS} (h : RMemE Pr w base g ts σ) (k : Nat) (u : Value) : Fp Pr base w (w.setCell ⟨g, k, none⟩ u) := (Fp.refl Pr base w).setCell (p := ⟨g, k, none⟩) h.hg.1 h.hg.2.2 u
theorem part_err {nt : NT} {Pr : Nat → Prop} {base g : Nat} {ts : List Tk} {σ : RS} {w w' : World} (h : RMemE Pr w base g ts σ) (he : σ.err ≠ 0) (hb : Below w.heap.size w w') : PartDone Pr base g ts nt σ w (.returned (.int .i64 0)) w' :=
  ⟨0, σ, rfl, h.later hb, Fp.later hb h.low, post_was he⟩

set_option maxHeartbeats 16000000 in
theorem refOneE (Pr : Nat → Prop) (base g : Nat) (ts : List Tk) (σ : RS) (w : World) (h : RMemE Pr w base g ts σ) (he : σ.err ≠ 0) :
    Calls Tryz.prog 95 #[.pointer (some ⟨g, 0, none⟩)] w (PartDone Pr base g ts (.opd true) σ w) := by
  have c5 := h.errc
  have hne : ((σ.err : Int) != 0) = true := by simp; omega
  have HX := Lib.hid (fun w' hb => part_err (nt := .opd true) (w' := w') h he hb)
  clear h he
  go_enter Tryz.func95, Tryz.ntmps95
  go_wp2_with fail
  go_ret
  exact HX.out _ (Below.refl _ _)
set_option maxHeartbeats 16000000 in
theorem refOne (n : Nat) (HU : ∀ m, m < n → Part 93 (.opd false) m) (HG : ∀ m, m < n → Part 44 (.row true 0) m) : Part 95 (.opd true) n := by
  intro Pr base g ts σ w h hlow hr hn hl
  by_cases he' : σ.err ≠ 0
  · exact refOneE Pr base g ts σ w h he'
  have he : σ.err = 0 := Classical.not_not.1 he'
  clear he'
  have h5 := h.errc
  rw [he] at h5
  have c5 : w.cell? ⟨g, 5, none⟩ = some (.int .i64 0) := h5
  have hn := hn he
  have hsm := hr.some he
  have HLT := Lib.hid (tail_len hsm)
  have hnp : 0 < n := by have := tail_len hsm; omega
  have HUU := Lib.hid (HU (n - 1) (by omega))
  have HGG := Lib.hid (HG (n - 1) (by omega))
  clear HU HG
  have HN := Lib.hid hn
  have HL := Lib.hid hl
  have HLO := Lib.hid hlow
  have HR := Lib.hid hr
  have HM := Lib.hid h
  have HE := Lib.hid he
  have HSE := Lib.hid (fun (u : List UInt8) (wx : World) (hb : Below w.heap.size w wx) => refSeesU base g ts σ 3 u wx (h.later hb) (fun _ => hsm) hl)
  by_cases s1 : seesB 3 [46] σ = true
  · have hy := (sees_yes s1).2
    have htx : textOf σ.rest ≠ [] := by rw [hy]; exact List.cons_ne_nil _ _
    have HS1 := Lib.hid (HSE.out [46])
    rw [s1] at HS1
    have HRD := Lib.hid (leaf_post (g := true) (n := ⟨18, ⟨#[]⟩, 0, 0, []⟩) hr he (by rw [hy]; rfl) htx)
    clear h hlow hr hn hl hsm he h5 hnp s1 hy htx HSE
    go_enter Tryz.func95, Tryz.ntmps95
    go_wp2_with fail
    refine (HS1.out _ (Below.refl _ _)).mono ?_
    rintro e w1 ⟨rfl, hb⟩
    have HM1 := Lib.hid (HM.out.later hb)
    have HF1 := Lib.hid (Fp.later (Pr := Pr) hb HM.out.low)
    clear hb
    go_wp2_with fail
    refine (refMakesU base g ts σ true false (Or.inl rfl) _ HM1.out HR.out.make HL.out).mono ?_
    rintro e w2 ⟨rfl, hm, hgr⟩
    have HM2 := Lib.hid hm
    have HF2 := Lib.hid (HF1.out.trans (HM1.out.fp hgr))
    clear hm hgr
    go_wp2_with fail
    refine (refEmit0 base g ts (makesF true false σ) 18 ⟨#[]⟩ w2 HM2.out (HLO.out.mono HF2.out.below.size) (by decide) (Nat.zero_le _) HRD.out.2).mono ?_
    rintro e w3 ⟨rfl, hm, hf⟩
    have HM3 := Lib.hid hm
    have HF3 := Lib.hid (HF2.out.trans hf)
    clear hm hf
    go_wp2_with fail
    go_ret
    exact ⟨_, _, rfl, HM3.out, HF3.out, HRD.out.1⟩
  rw [Bool.not_eq_true] at s1
  have HS1 := Lib.hid (HSE.out [46])
  rw [s1] at HS1
  by_cases s2 : seesB 3 [63] σ = true
  · have hy := (sees_yes s2).2
    have htx : textOf σ.rest ≠ [] := by rw [hy]; exact List.cons_ne_nil _ _
    have HS2 := Lib.hid (HSE.out [63])
    rw [s2] at HS2
    have HMK := Lib.hid (make_ready (a := true) (b := true) (Or.inl rfl) hr (fun _ => htx))
    have HRD := Lib.hid (fun (a : Int) (σ3 : RS) (hp : Post (.opd false) (makesF true true σ) a σ3) => pre_post (g := true) (k := 19) hr he (by rw [hy]; rfl) (by decide) htx (spanR_none (by omega) HMK.out.1) hp)
    clear h hlow hr hn hl hsm he h5 hnp s1 s2 hy htx HSE
    go_enter Tryz.func95, Tryz.ntmps95
    go_wp2_with fail
    refine (HS1.out _ (Below.refl _ _)).mono ?_
    rintro e w1 ⟨rfl, hb⟩
    have HB1 := Lib.hid hb
    clear hb
    go_wp2_with fail
    refine (HS2.out _ HB1.out).mono ?_
    rintro e w2 ⟨rfl, hb⟩
    have HB2 := Lib.hid (HB1.out.trans (hb.mono HB1.out.size))
    clear hb
    have HM2 := Lib.hid (HM.out.later HB2.out)
    have HF2 := Lib.hid (Fp.later (Pr := Pr) HB2.out HM.out.low)
    go_wp2_with fail
    refine (refMakesU base g ts σ true true (Or.inl rfl) _ HM2.out HR.out.make HL.out).mono ?_
    rintro e w3 ⟨rfl, hm, hgr⟩
    have HM3 := Lib.hid hm
    have HF3 := Lib.hid (HF2.out.trans (HM2.out.fp hgr))
    clear hm hgr
    go_wp2_with fail
    refine (HUU.out Pr base g ts (makesF true true σ) w3 HM3.out (HLO.out.mono HF3.out.below.size) HMK.out.1 (fun he => by have h2 := (HMK.out.2 he).2; have := HN.out; omega) HL.out).mono ?_
    rintro e w4 ⟨a, σ3, rfl, hm, hf, hp⟩
    have HR4 := Lib.hid (HRD.out a σ3 hp)
    have HAV := Lib.hid hp.val
    obtain ⟨c4, f4⟩ := hm.deepc
    have hd1 := HR4.out.2.2.1
    have hd2 := HR4.out.2.2.2
    have HM4 := Lib.hid hm.down
    have HF4 := Lib.hid ((HF3.out.trans hf).trans (hm.fpg 4 (.int .i64 (σ3.deep - 1))))
    clear hm hf hp
    go_wp2_with fail
    refine (refEmit1 base g ts { σ3 with deep := σ3.deep - 1 } 19 0 0 a _ _ _ (by simp) HM4.out (HLO.out.mono HF4.out.below.size) (by decide) ⟨by unfold small64; decide, by unfold small64; decide⟩ HAV.out HR4.out.2.1).mono ?_
    rintro e w5 ⟨rfl, hm, hf⟩
    have HM5 := Lib.hid hm
    have HF5 := Lib.hid (HF4.out.trans hf)
    clear hm hf
    go_wp2_with fail
    go_ret
    exact ⟨_, _, rfl, HM5.out, HF5.out, HR4.out.1⟩
  rw [Bool.not_eq_true] at s2
  have HS2 := Lib.hid (HSE.out [63])
  rw [s2] at HS2
  by_cases s3 : seesB 3 [40] σ = true
  · have hy := (sees_yes s3).2
    have htx : textOf σ.rest ≠ [] := by rw [hy]; exact List.cons_ne_nil _ _
    have HS3 := Lib.hid (HSE.out [40])
    rw [s3] at HS3
    have HMK := Lib.hid (make_ready (a := false) (b := true) (Or.inr rfl) hr (fun _ => htx))
    have HRD := Lib.hid (fun (a : Int) (σ2 : RS) (hp : Post (.row true 0) (makesF false true σ) a σ2) => par_post (g := true) hr he hy hp)
    clear h hlow hr hn hl hsm he h5 hnp s1 s2 s3 hy htx HSE
    go_enter Tryz.func95, Tryz.ntmps95
    go_wp2_with fail
    refine (HS1.out _ (Below.refl _ _)).mono ?_
    rintro e w1 ⟨rfl, hb⟩
    have HB1 := Lib.hid hb
    clear hb
    go_wp2_with fail
    refine (HS2.out _ HB1.out).mono ?_
    rintro e w2 ⟨rfl, hb⟩
    have HB2 := Lib.hid (HB1.out.trans (hb.mono HB1.out.size))
    clear hb
    go_wp2_with fail
    refine (HS3.out _ HB2.out).mono ?_
    rintro e w3 ⟨rfl, hb⟩
    have HB3 := Lib.hid (HB2.out.trans (hb.mono HB2.out.size))
    clear hb
    have HM3 := Lib.hid (HM.out.later HB3.out)
    have HF3 := Lib.hid (Fp.later (Pr := Pr) HB3.out HM.out.low)
    go_wp2_with fail
    refine (refMakesU base g ts σ false true (Or.inr rfl) _ HM3.out HR.out.make HL.out).mono ?_
    rintro e w4 ⟨rfl, hm, hgr⟩
    have HM4 := Lib.hid hm
    have HF4 := Lib.hid (HF3.out.trans (HM3.out.fp hgr))
    clear hm hgr
    go_wp2_with fail
    refine (HGG.out Pr base g ts (makesF false true σ) w4 HM4.out (HLO.out.mono HF4.out.below.size) HMK.out.1 (fun he => by have h2 := (HMK.out.2 he).2; have := HN.out; omega) HL.out).mono ?_
    rintro e w5 ⟨a, σ2, rfl, hm, hf, hp⟩
    have HR5 := Lib.hid (HRD.out a σ2 hp)
    have HM5 := Lib.hid hm
    have HF5 := Lib.hid (HF4.out.trans hf)
    clear hm hf hp
    go_wp2_with fail
    refine (refTakesU base g ts σ2 [41] _ HM5.out HR5.out.1 HL.out).mono ?_
    rintro e w6 ⟨rfl, hm, hgr⟩
    obtain ⟨c4, f4⟩ := hm.deepc
    have hd1 := HR5.out.2.2.1
    have hd2 := HR5.out.2.2.2
    have HM6 := Lib.hid hm.down
    have HF6 := Lib.hid ((HF5.out.trans (HM5.out.fp hgr)).trans (hm.fpg 4 (.int .i64 ((takesF [41] σ2).deep - 1))))
    clear hm hgr
    go_wp2_with fail
    go_ret
    exact ⟨_, _, rfl, HM6.out, HF6.out, HR5.out.2.1⟩
  rw [Bool.not_eq_true] at s3
  have HS3 := Lib.hid (HSE.out [40])
  rw [s3] at HS3
  have hgd := (hr.good he).1
  have HRD := Lib.hid (show Post (.opd true) σ 0 (badF 2 σ) by
    rw [sees_sign he hgd (by decide), decide_eq_false_iff_not] at s1 s2 s3
    exact none_post hr he (by simp [leafOf, s1]) s3 rfl (by simp [preOf, s2]))
  clear h hlow hr hn hl hsm he h5 hnp s1 s2 s3 HSE hgd
  go_enter Tryz.func95, Tryz.ntmps95
  go_wp2_with fail
  refine (HS1.out _ (Below.refl _ _)).mono ?_
  rintro e w1 ⟨rfl, hb⟩
  have HB1 := Lib.hid hb
  clear hb
  go_wp2_with fail
  refine (HS2.out _ HB1.out).mono ?_
  rintro e w2 ⟨rfl, hb⟩
  have HB2 := Lib.hid (HB1.out.trans (hb.mono HB1.out.size))
  clear hb
  go_wp2_with fail
  refine (HS3.out _ HB2.out).mono ?_
  rintro e w3 ⟨rfl, hb⟩
  have HB3 := Lib.hid (HB2.out.trans (hb.mono HB2.out.size))
  clear hb
  have HM3 := Lib.hid (HM.out.later HB3.out)
  have HF3 := Lib.hid (Fp.later (Pr := Pr) HB3.out HM.out.low)
  go_wp2_with fail
  refine (refBadU base g ts σ 2 _ HM3.out (HR.out.some) HL.out).mono ?_
  rintro e w4 ⟨rfl, hm, hgr⟩
  have HM4 := Lib.hid hm
  have HF4 := Lib.hid (HF3.out.trans (HM3.out.fp hgr))
  clear hm hgr
  go_wp2_with fail
  go_ret
  exact ⟨0, _, rfl, HM4.out, HF4.out, HRD.out⟩
end Go.Proofs.YtnoghlhggeffnaaGreatDoor.Parse
