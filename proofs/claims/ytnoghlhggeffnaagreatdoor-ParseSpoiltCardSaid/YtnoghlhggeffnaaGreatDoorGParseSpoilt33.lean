/-
  The walk of the reference's prim. By an AI agent.
-/
import Derived.Test.YtnoghlhggeffnaaGreatDoorGParseSpoilt32
namespace Go.Proofs.YtnoghlhggeffnaaGreatDoor.Parse
open Go.RowKit Go.Proofs.YtnoghlhggeffnaaGreatDoor.Ints Go.Proofs.YtnoghlhggeffnaaGreatDoor.Lex Go.Proofs.YtnoghlhggeffnaaGreatDoor.Tree

theorem bytes_list (l : List UInt8) : (Lex.bytes l).data.toList = l := rfl
theorem name_small {l : List UInt8} (h : nameS l = true) : ∃ c r, l = c :: r ∧ small c = true := by
  by_cases hl : l.length = 0 ∨ 16 < l.length
  · rw [name_not hl] at h; cases h
  · cases l with
    | nil => exact absurd (Or.inl rfl) hl
    | cons c r =>
      rw [name_is (by simp only [List.length_cons, not_or] at hl; omega), Bool.and_eq_true, Bool.and_eq_true] at h
      exact ⟨c, r, rfl, h.1.1⟩
theorem name_kind {t : Tk} (h : TokOk t) (hn : nameS t.text = true) : t.kind = 1 := by
  obtain ⟨c, r, h1, h2⟩ := name_small hn
  rcases h with ⟨-, c', r', h3, h4⟩ | ⟨h3, -⟩ | ⟨-, h3⟩
  · rw [h1] at h3; injection h3 with h3; rw [← h3, h2] at h4; cases h4
  · exact h3
  · rw [h1] at h3; cases h3
theorem leaf_name {t : List UInt8} (h1 : t ≠ [116, 114, 117, 101]) (h2 : t ≠ [102, 97, 108, 115, 101]) (h : nameS t = true) : leafOf false t = some ⟨3, Lex.bytes t, 0, 0, []⟩ := by
  simp [leafOf, h1, h2, h]
theorem leaf_none {t : List UInt8} (h1 : t ≠ [116, 114, 117, 101]) (h2 : t ≠ [102, 97, 108, 115, 101]) (h : nameS t = false) : leafOf false t = none := by
  simp [leafOf, h1, h2, h]
theorem brace_none {t : List UInt8} (h1 : t ≠ [98, 97, 99, 107]) (h2 : t ≠ [102, 111, 114, 101]) : braceOf false t = 0 := by
  simp [braceOf, h1, h2]
theorem needs_bool {σ : RS} (hr : Ready σ) (he : σ.err = 0) : needF σ = if seesB 3 [123] σ = true then σ else badF 2 σ := by
  rw [sees_sign he (hr.good he).1 (by decide)]
  unfold needF
  by_cases h : textOf σ.rest = [123]
  · rw [if_neg (fun k => k.2 h), if_pos (by rw [decide_eq_true h])]
  · rw [if_pos ⟨he, h⟩, if_neg (by rw [decide_eq_false h]; decide)]

set_option maxHeartbeats 40000000 in
theorem refPrim (n : Nat) (HF : ∀ m, m < n → Part 43 (.row false 0) m) (HG : ∀ m, m < n → Part 44 (.row true 0) m)
    (Pr : Nat → Prop) (base g : Nat) (ts : List Tk) (σ : RS) (w : World) (h : RMemE Pr w base g ts σ) (hlow : Lw Pr w) (hr : Ready σ) (hn : σ.rest.length ≤ n) (hl : ts.length ≤ 5000) (he : σ.err = 0) (hpre : preOf false (textOf σ.rest) = 0) :
    Calls Tryz.prog 109 #[.pointer (some ⟨g, 0, none⟩)] w (PartDone Pr base g ts (.opd false) σ w) := by
  have hsm := hr.some he
  have HLT := Lib.hid (tail_len hsm)
  have hnp : 0 < n := by have := tail_len hsm; omega
  have HFF := Lib.hid (HF (n - 1) (by omega))
  have HGG := Lib.hid (HG (n - 1) (by omega))
  clear HF HG
  have HN := Lib.hid hn
  have HL := Lib.hid hl
  have HLO := Lib.hid hlow
  have HR := Lib.hid hr
  have HE := Lib.hid he
  have HP := Lib.hid hpre
  have HGD := Lib.hid (hr.good he).1
  obtain ⟨t, r, hts, htok, hnum, htl, -⟩ := (hr.good he).1.split
  have HTX := Lib.hid (show textOf σ.rest = t.text by rw [hts]; rfl)
  have HTK := Lib.hid htok
  have HTL := Lib.hid htl
  have hm := h
  obtain ⟨tv, lv, SN, hm⟩ := hm
  obtain ⟨b, c, j, htv, hj, hjl, d0, d1, d2, d3⟩ := hm.tok hts
  have k0 := hm.blk.cell 0 rfl
  have k1 := hm.blk.cell 1 rfl
  rw [htv] at k0
  rw [hj] at k1
  have c0 : ∀ o, (w.alloc o).cell? ⟨g, 0, none⟩ = _ := fun o => (hm.blk.alloc o).cell 0 rfl
  have c1 : ∀ o, (w.alloc o).cell? ⟨g, 1, none⟩ = _ := fun o => (hm.blk.alloc o).cell 1 rfl
  rw [htv] at c0
  rw [hj] at c1
  have e0 : ∀ o, (w.alloc o).cell? ⟨b, j * 4, none⟩ = _ := fun o => Lib.cell?_alloc_marked o d0
  have e1 : ∀ o, (w.alloc o).cell? ⟨b, j * 4 + 1, none⟩ = _ := fun o => Lib.cell?_alloc_marked o d1
  have e2 : ∀ o, (w.alloc o).cell? ⟨b, j * 4 + 2, none⟩ = _ := fun o => Lib.cell?_alloc_marked o d2
  have e3 : ∀ o, (w.alloc o).cell? ⟨b, j * 4 + 3, none⟩ = _ := fun o => Lib.cell?_alloc_marked o d3
  have hj2 : (j : Int) < (ts.length : Int) := by omega
  have hj3 : (0 : Int) ≤ (j : Int) := by omega
  have HBW := Lib.hid (((Below.refl w.heap.size w).alloc (Nat.le_refl _) (.cells #[.int .i64 (t.kind : Int), .string (Lex.bytes t.text), .int .i64 (t.num : Int), .int .i64 (t.pos : Int)] 74)).drew)
  have HMQ := Lib.hid ((h.boxed (.cells #[.int .i64 (t.kind : Int), .string (Lex.bytes t.text), .int .i64 (t.num : Int), .int .i64 (t.pos : Int)] 74)).later (Below.refl _ _).drew)
  have HLQ := Lib.hid (show Lw (fun b => Pr b ∨ b = w.heap.size) (w.alloc (.cells #[.int .i64 (t.kind : Int), .string (Lex.bytes t.text), .int .i64 (t.num : Int), .int .i64 (t.pos : Int)] 74)).drew from Lw.box hlow _)
  have HXB := Lib.hid (Blk.new w #[.int .i64 (t.kind : Int), .string (Lex.bytes t.text), .int .i64 (t.num : Int), .int .i64 (t.pos : Int)] 74 _ rfl).drew
  have HFW := Lib.hid (Fp.later (Pr := Pr) HBW.out h.low)
  have HTR := Lib.hid (fun (v : Int) (σ' : RS) (w' : World) (hm : RMemE (fun b => Pr b ∨ b = w.heap.size) w' base g ts σ') (hf : Fp Pr base w w') (hp : Post (.opd false) σ v σ') => show PartDone Pr base g ts (.opd false) σ w (.returned (.int .i64 v)) w' from ⟨v, σ', rfl, hm.mono (fun b _ hb hp => hb (Or.inl hp)), hf, hp⟩)
  obtain ⟨Q, hQ⟩ : ∃ Q : Nat → Prop, (fun b => Pr b ∨ b = w.heap.size) = Q := ⟨_, rfl⟩
  rw [hQ] at HMQ HLQ HTR
  have HQ := Lib.hid (show Q w.heap.size ∧ ∀ b, Pr b → Q b by rw [← hQ]; exact ⟨Or.inr rfl, fun b hb => Or.inl hb⟩)
  obtain ⟨X, hX⟩ : ∃ X, w.heap.size = X := ⟨_, rfl⟩
  have HX := Lib.hid hX
  rw [hX] at HXB HQ
  obtain ⟨W, hW⟩ : ∃ W, (w.alloc (.cells #[.int .i64 (t.kind : Int), .string (Lex.bytes t.text), .int .i64 (t.num : Int), .int .i64 (t.pos : Int)] 74)).drew = W := ⟨_, rfl⟩
  have HW := Lib.hid hW
  rw [hW] at HMQ HLQ HXB HFW
  clear h hlow hr hn hl hsm he hnp hpre hts htok hnum htl hm hj hjl hQ hX hW
  go_enter Tryz.func109, Tryz.ntmps109
  go_wp2
  go_region
  clear k0 k1 c0 c1 e0 e1 e2 e3 d0 d1 d2 d3
  all_goals
    go_wp2_with fail
    rw [HW.out]
    have HSE := Lib.hid (fun (k : Nat) (u : List UInt8) (wx : World) (hb : Below W.heap.size W wx) => refSeesU base g ts σ k u wx (HMQ.out.later hb) (HR.out.some) HL.out)
    by_cases s1 : seesB 3 [40] σ = true
    · have HS1 := Lib.hid (HSE.out 3 [40])
      rw [s1] at HS1
      have hy := (sees_yes s1).2
      have HMK := Lib.hid (make_ready (a := false) (b := true) (Or.inr rfl) HR.out (fun _ => show textOf σ.rest ≠ [] by rw [hy]; exact List.cons_ne_nil _ _))
      have HRD := Lib.hid (fun (a : Int) (σ2 : RS) (hp : Post (.row false 0) (makesF false true σ) a σ2) => par_post (g := false) HR.out HE.out hy hp)
      clear s1 hy HSE
      refine (HS1.out _ (Below.refl _ _)).mono ?_
      rintro e w1 ⟨rfl, hb⟩
      have HM1 := Lib.hid (HMQ.out.later hb)
      have HF1 := Lib.hid (HFW.out.trans (Fp.later (Pr := Pr) hb HMQ.out.low))
      have HL1 := Lib.hid (HLQ.out.mono hb.size)
      clear hb
      go_wp2_with fail
      refine (refMakesU base g ts σ false true (Or.inr rfl) _ HM1.out HR.out.make HL.out).mono ?_
      rintro e w2 ⟨rfl, hm, hgr⟩
      have HM2 := Lib.hid hm
      have HL2 := Lib.hid (HL1.out.mono hgr.size)
      have HF2 := Lib.hid (HF1.out.trans ((HM1.out.fp hgr).mono HQ.out.2))
      clear hm hgr
      go_wp2_with fail
      refine (HFF.out Q base g ts (makesF false true σ) w2 HM2.out HL2.out HMK.out.1 (fun he => by have h2 := (HMK.out.2 he).2; have := HN.out; omega) HL.out).mono ?_
      rintro e w3 ⟨a, σ2, rfl, hm, hf, hp⟩
      have HR3 := Lib.hid (HRD.out a σ2 hp)
      have HM3 := Lib.hid hm
      have HF3 := Lib.hid (HF2.out.trans (hf.mono HQ.out.2))
      clear hm hf hp
      go_wp2_with fail
      refine (refTakesU base g ts σ2 [41] _ HM3.out HR3.out.1 HL.out).mono ?_
      rintro e w4 ⟨rfl, hm, hgr⟩
      obtain ⟨c4, f4⟩ := hm.deepc
      have hd1 := HR3.out.2.2.1
      have hd2 := HR3.out.2.2.2
      have HM4 := Lib.hid hm.down
      have HF4 := Lib.hid ((HF3.out.trans ((HM3.out.fp hgr).mono HQ.out.2)).trans ((hm.fpg 4 (.int .i64 ((takesF [41] σ2).deep - 1))).mono HQ.out.2))
      clear hm hgr
      go_wp2_with fail
      go_ret
      exact HTR.out _ _ _ HM4.out HF4.out HR3.out.2.1
    rw [Bool.not_eq_true] at s1
    have HS1 := Lib.hid (HSE.out 3 [40])
    rw [s1] at HS1
    refine (HS1.out _ (Below.refl _ _)).mono ?_
    rintro e w1 ⟨rfl, hb⟩
    have HB1 := Lib.hid hb
    clear hb HS1
    have HNP := Lib.hid s1
    clear s1
    go_wp2_with fail
    by_cases s2 : seesB 1 [116, 114, 117, 101] σ = true
    · have HS2 := Lib.hid (HSE.out 1 [116, 114, 117, 101])
      rw [s2] at HS2
      have hy := (sees_yes s2).2
      have htx : t.text = [116, 114, 117, 101] := by rw [← HTX.out]; exact hy
      have HRD := Lib.hid (leaf_post (g := false) (n := ⟨1, ⟨#[]⟩, 0, 0, []⟩) HR.out HE.out (by rw [hy]; rfl) (by rw [hy]; exact List.cons_ne_nil _ _))
      have HXT := Lib.hid (show Lex.bytes t.text = { data := #[116, 114, 117, 101] } by rw [htx]; rfl)
      clear s2 hy htx HSE
      refine (HS2.out _ HB1.out).mono ?_
      rintro e w2 ⟨rfl, hb⟩
      have HB2 := Lib.hid (HB1.out.trans (hb.mono HB1.out.size))
      clear hb
      have HM2 := Lib.hid (HMQ.out.later HB2.out)
      have HF2 := Lib.hid (HFW.out.trans (Fp.later (Pr := Pr) HB2.out HMQ.out.low))
      have HL2 := Lib.hid (HLQ.out.mono HB2.out.size)
      have HX2 := Lib.hid (HXB.out.later HB2.out)
      go_wp2_with fail
      refine (refMakesU base g ts σ true false (Or.inl rfl) _ HM2.out HR.out.make HL.out).mono ?_
      rintro e w7 ⟨rfl, hm, hgr⟩
      have hx7 := (HM2.out.fp hgr).box HQ.out.1 HX2.out
      have x1 := hx7.cell 1 rfl
      rw [HXT.out, ← HX.out] at x1
      have HM7 := Lib.hid hm
      have HL7 := Lib.hid (HL2.out.mono hgr.size)
      have HF7 := Lib.hid (HF2.out.trans ((HM2.out.fp hgr).mono HQ.out.2))
      clear hm hgr hx7
      go_wp2_with fail
      refine (refEmit0 base g ts (makesF true false σ) 1 ⟨#[]⟩ w7 HM7.out HL7.out (by decide) (Nat.zero_le _) HRD.out.2).mono ?_
      rintro e w8 ⟨rfl, hm, hf⟩
      have HM8 := Lib.hid hm
      have HF8 := Lib.hid (HF7.out.trans (hf.mono HQ.out.2))
      clear hm hf
      go_wp2_with fail
      go_ret
      exact HTR.out _ _ _ HM8.out HF8.out HRD.out.1
    rw [Bool.not_eq_true] at s2
    have HS2 := Lib.hid (HSE.out 1 [116, 114, 117, 101])
    rw [s2] at HS2
    refine (HS2.out _ HB1.out).mono ?_
    rintro e w2 ⟨rfl, hb⟩
    have HB2 := Lib.hid (HB1.out.trans (hb.mono HB1.out.size))
    clear hb HS2
    have HNT := Lib.hid s2
    clear s2
    go_wp2_with fail
    by_cases s3 : seesB 1 [102, 97, 108, 115, 101] σ = true
    · have HS3 := Lib.hid (HSE.out 1 [102, 97, 108, 115, 101])
      rw [s3] at HS3
      have hy := (sees_yes s3).2
      have htx : t.text = [102, 97, 108, 115, 101] := by rw [← HTX.out]; exact hy
      have HRD := Lib.hid (leaf_post (g := false) (n := ⟨2, ⟨#[]⟩, 0, 0, []⟩) HR.out HE.out (by rw [hy]; rfl) (by rw [hy]; exact List.cons_ne_nil _ _))
      have HXT := Lib.hid (show Lex.bytes t.text = { data := #[102, 97, 108, 115, 101] } by rw [htx]; rfl)
      clear s3 hy htx HSE
      refine (HS3.out _ HB2.out).mono ?_
      rintro e w2' ⟨rfl, hb⟩
      have HB2' := Lib.hid (HB2.out.trans (hb.mono HB2.out.size))
      clear hb
      have HM2' := Lib.hid (HMQ.out.later HB2'.out)
      have HF2' := Lib.hid (HFW.out.trans (Fp.later (Pr := Pr) HB2'.out HMQ.out.low))
      have HL2' := Lib.hid (HLQ.out.mono HB2'.out.size)
      have HX2' := Lib.hid (HXB.out.later HB2'.out)
      go_wp2_with fail
      refine (refMakesU base g ts σ true false (Or.inl rfl) _ HM2'.out HR.out.make HL.out).mono ?_
      rintro e w7 ⟨rfl, hm, hgr⟩
      have hx7 := (HM2'.out.fp hgr).box HQ.out.1 HX2'.out
      have x1 := hx7.cell 1 rfl
      rw [HXT.out, ← HX.out] at x1
      have HM7 := Lib.hid hm
      have HL7 := Lib.hid (HL2'.out.mono hgr.size)
      have HF7 := Lib.hid (HF2'.out.trans ((HM2'.out.fp hgr).mono HQ.out.2))
      clear hm hgr hx7
      go_wp2_with fail
      refine (refEmit0 base g ts (makesF true false σ) 2 ⟨#[]⟩ w7 HM7.out HL7.out (by decide) (Nat.zero_le _) HRD.out.2).mono ?_
      rintro e w8 ⟨rfl, hm, hf⟩
      have HM8 := Lib.hid hm
      have HF8 := Lib.hid (HF7.out.trans (hf.mono HQ.out.2))
      clear hm hf
      go_wp2_with fail
      go_ret
      exact HTR.out _ _ _ HM8.out HF8.out HRD.out.1
    rw [Bool.not_eq_true] at s3
    have HS3 := Lib.hid (HSE.out 1 [102, 97, 108, 115, 101])
    rw [s3] at HS3
    refine (HS3.out _ HB2.out).mono ?_
    rintro e w3 ⟨rfl, hb⟩
    have HB3 := Lib.hid (HB2.out.trans (hb.mono HB2.out.size))
    clear hb HS3
    have HNF := Lib.hid s3
    clear s3
    go_wp2_with fail
    by_cases s4 : seesB 1 [98, 97, 99, 107] σ = true
    · have HS4 := Lib.hid (HSE.out 1 [98, 97, 99, 107])
      rw [s4] at HS4
      have hy := (sees_yes s4).2
      have htx : t.text = [98, 97, 99, 107] := by rw [← HTX.out]; exact hy
      have HXT := Lib.hid (show Lex.bytes t.text = { data := #[98, 97, 99, 107] } by rw [htx]; rfl)
      have HY := Lib.hid hy
      clear s4 hy htx HSE
      refine (HS4.out _ HB3.out).mono ?_
      rintro e w4 ⟨rfl, hb⟩
      have HB4 := Lib.hid (HB3.out.trans (hb.mono HB3.out.size))
      clear hb
      have HMK := Lib.hid (make_ready (a := true) (b := false) (Or.inl rfl) HR.out (fun _ => show textOf σ.rest ≠ [] by rw [HY.out]; exact List.cons_ne_nil _ _))
      have HRD := Lib.hid (fun (lo hi a : Int) (σ2 σ5 : RS) (hs : SpanPost 16 (makesF true false σ) lo hi σ2) (hp : Post (.row true 0) (makesF false true (needF σ2)) a σ5) => br_post (g := false) (k := 16) HR.out HE.out (by rw [HY.out]; rfl) (by decide) (by rw [HY.out]; exact List.cons_ne_nil _ _) hs hp)
      have HM4 := Lib.hid (HMQ.out.later HB4.out)
      have HF4 := Lib.hid (HFW.out.trans (Fp.later (Pr := Pr) HB4.out HMQ.out.low))
      have HL4 := Lib.hid (HLQ.out.mono HB4.out.size)
      have hx4 := HXB.out.later HB4.out
      have x1 := hx4.cell 1 rfl
      rw [HXT.out, ← HX.out] at x1
      clear hx4
      go_wp2_with fail
      clear x1
      refine (refMakesU base g ts σ true false (Or.inl rfl) _ HM4.out HR.out.make HL.out).mono ?_
      rintro e w5 ⟨rfl, hm, hgr⟩
      have HM5 := Lib.hid hm
      have HL5 := Lib.hid (HL4.out.mono hgr.size)
      have HF5 := Lib.hid (HF4.out.trans ((HM4.out.fp hgr).mono HQ.out.2))
      clear hm hgr
      go_wp2_with fail
      refine (refSpan base g ts (makesF true false σ) w5 HM5.out HL5.out HMK.out.1 HL.out).mono ?_
      rintro e w6 ⟨lo, hi, σ2, rfl, hm, hf, hsp⟩
      have HSP := Lib.hid (hsp 16 (by decide) (by decide))
      have HL6 := Lib.hid (HL5.out.mono hf.below.size)
      have HF6 := Lib.hid (HF5.out.trans (hf.mono HQ.out.2))
      have HRB := Lib.hid (HSP.out.ready HMK.out.1)
      have HMB := Lib.hid (hm.boxed (.cells #[.int .i64 lo, .int .i64 hi] 33))
      have HLB := Lib.hid (Lw.box HL6.out (.cells #[.int .i64 lo, .int .i64 hi] 33))
      have HBX := Lib.hid (Blk.new w6 #[.int .i64 lo, .int .i64 hi] 33 _ rfl)
      have HFB := Lib.hid (HF6.out.trans (Fp.later (Pr := Pr) ((Below.refl _ _).alloc (Nat.le_refl _) (.cells #[.int .i64 lo, .int .i64 hi] 33)) hm.low))
      obtain ⟨Q2, hQ2⟩ : ∃ Q2 : Nat → Prop, (fun b => Q b ∨ b = w6.heap.size) = Q2 := ⟨_, rfl⟩
      rw [hQ2] at HMB HLB
      have HQ2 := Lib.hid (show Q2 w6.heap.size ∧ (∀ b, Q b → Q2 b) ∧ (∀ b, Pr b → Q2 b) by rw [← hQ2]; exact ⟨Or.inr rfl, fun b hb => Or.inl hb, fun b hb => Or.inl (HQ.out.2 b hb)⟩)
      clear hm hf hsp hQ2
      obtain ⟨W6, hW6⟩ : ∃ W6, w6.alloc (.cells #[.int .i64 lo, .int .i64 hi] 33) = W6 := ⟨_, rfl⟩
      have HW6 := Lib.hid hW6
      rw [hW6] at HMB HLB HBX HFB
      obtain ⟨Z, hZ⟩ : ∃ Z, w6.heap.size = Z := ⟨_, rfl⟩
      have HZ := Lib.hid hZ
      rw [hZ] at HBX HQ2
      have c5 := HMB.out.errc
      rw [← hW6] at c5
      clear hW6 hZ
      have HND := Lib.hid (need_ready HRB.out.1)
      have HMK2 := Lib.hid (make_ready (a := false) (b := true) (Or.inr rfl) HND.out.1 (fun he => show textOf (needF σ2).rest ≠ [] by rw [(HND.out.2 he).2.1]; exact List.cons_ne_nil _ _))
      have HLN := Lib.hid (fun he => show (makesF false true (needF σ2)).rest.length ≤ n - 1 by
        obtain ⟨q1, q2⟩ := HMK2.out.2 he
        obtain ⟨q3, -, q4⟩ := HND.out.2 q1
        obtain ⟨q5, q6⟩ := HRB.out.2 q3
        have q7 := (HMK.out.2 q5).2
        have := HN.out
        omega)
      by_cases he2 : σ2.err = 0
      · rw [he2] at c5
        have HNB2 := Lib.hid (needs_bool HRB.out.1 he2)
        have HSQ := Lib.hid (refSeesU base g ts σ2 3 [123] _ HMB.out HRB.out.1.some HL.out)
        clear he2
        by_cases hsb : seesB 3 [123] σ2 = true
        · rw [hsb] at HSQ
          rw [hsb, if_pos rfl] at HNB2
          clear hsb
          go_wp2_with fail
          rw [HW6.out]
          refine HSQ.out.mono ?_
          rintro e w7 ⟨rfl, hb⟩
          have hm7 := HMB.out.later hb
          rw [← HNB2.out] at hm7
          have HM7 := Lib.hid hm7
          have HL7 := Lib.hid (HLB.out.mono hb.size)
          have HF7 := Lib.hid (Fp.later (Pr := Q2) hb HMB.out.low)
          clear hb hm7 c5
          go_wp2_with fail
          refine (refMakesU base g ts (needF σ2) false true (Or.inr rfl) _ HM7.out HND.out.1.make HL.out).mono ?_
          rintro e w9 ⟨rfl, hm, hgr⟩
          have HM9 := Lib.hid hm
          have HL9 := Lib.hid (HL7.out.mono hgr.size)
          have HF9 := Lib.hid (HF7.out.trans (HM7.out.fp hgr))
          clear hm hgr
          go_wp2_with fail
          refine (HGG.out Q2 base g ts (makesF false true (needF σ2)) w9 HM9.out HL9.out HMK2.out.1 HLN.out HL.out).mono ?_
          rintro e w10 ⟨a, σ5, rfl, hm, hf, hp⟩
          have HR10 := Lib.hid (HRD.out lo hi a σ2 σ5 HSP.out hp)
          have HM10 := Lib.hid hm
          have HF10 := Lib.hid (HF9.out.trans hf)
          have HAV := Lib.hid hp.val
          clear hm hf hp
          go_wp2_with fail
          refine (refTakesU base g ts σ5 [125] _ HM10.out HR10.out.1 HL.out).mono ?_
          rintro e w11 ⟨rfl, hm, hgr⟩
          obtain ⟨c4, f4⟩ := hm.deepc
          have hd1 := HR10.out.2.2.2.1
          have hd2 := HR10.out.2.2.2.2
          have HM11 := Lib.hid hm.down
          have hf11 := (HF10.out.trans (HM10.out.fp hgr)).trans (hm.fpg 4 (.int .i64 ((takesF [125] σ5).deep - 1)))
          have hbx := hf11.box HQ2.out.1 HBX.out
          have b0 := hbx.cell 0 rfl
          have b1 := hbx.cell 1 rfl
          rw [← HZ.out] at b0 b1
          have HF11 := Lib.hid (HFB.out.trans (hf11.mono HQ2.out.2.2))
          have HL11 := Lib.hid (HLB.out.mono hf11.below.size)
          clear hm hgr hf11 hbx
          go_wp2_with fail
          refine (refEmit1 base g ts { takesF [125] σ5 with deep := (takesF [125] σ5).deep - 1 } 16 lo hi a _ _ _ (by simp) HM11.out HL11.out (by decide) HSP.out.small HAV.out HR10.out.2.2.1).mono ?_
          rintro e w12 ⟨rfl, hm, hf⟩
          have HM12 := Lib.hid (hm.mono (Pr' := Q) fun b _ hb hp => hb (HQ2.out.2.1 b hp))
          have HF12 := Lib.hid (HF11.out.trans (hf.mono HQ2.out.2.2))
          clear hm hf
          go_wp2_with fail
          go_ret
          exact HTR.out _ _ _ HM12.out HF12.out HR10.out.2.1
        · rw [Bool.not_eq_true] at hsb
          rw [hsb] at HSQ
          rw [hsb, if_neg (by decide)] at HNB2
          clear hsb
          go_wp2_with fail
          rw [HW6.out]
          refine HSQ.out.mono ?_
          rintro e w7 ⟨rfl, hb⟩
          have HM7 := Lib.hid (HMB.out.later hb)
          have HL7 := Lib.hid (HLB.out.mono hb.size)
          have HF7 := Lib.hid (Fp.later (Pr := Q2) hb HMB.out.low)
          clear hb c5
          go_wp2_with fail
          refine (refBadU base g ts σ2 2 _ HM7.out HRB.out.1.some HL.out).mono ?_
          rintro e w8 ⟨rfl, hm, hgr⟩
          rw [← HNB2.out] at hm
          have HM8 := Lib.hid hm
          have HL8 := Lib.hid (HL7.out.mono hgr.size)
          have HF8 := Lib.hid (HF7.out.trans (HM7.out.fp hgr))
          clear hm hgr
          go_wp2_with fail
          refine (refMakesU base g ts (needF σ2) false true (Or.inr rfl) _ HM8.out HND.out.1.make HL.out).mono ?_
          rintro e w9 ⟨rfl, hm, hgr⟩
          have HM9 := Lib.hid hm
          have HL9 := Lib.hid (HL8.out.mono hgr.size)
          have HF9 := Lib.hid (HF8.out.trans (HM8.out.fp hgr))
          clear hm hgr
          go_wp2_with fail
          refine (HGG.out Q2 base g ts (makesF false true (needF σ2)) w9 HM9.out HL9.out HMK2.out.1 HLN.out HL.out).mono ?_
          rintro e w10 ⟨a, σ5, rfl, hm, hf, hp⟩
          have HR10 := Lib.hid (HRD.out lo hi a σ2 σ5 HSP.out hp)
          have HM10 := Lib.hid hm
          have HF10 := Lib.hid (HF9.out.trans hf)
          have HAV := Lib.hid hp.val
          clear hm hf hp
          go_wp2_with fail
          refine (refTakesU base g ts σ5 [125] _ HM10.out HR10.out.1 HL.out).mono ?_
          rintro e w11 ⟨rfl, hm, hgr⟩
          obtain ⟨c4, f4⟩ := hm.deepc
          have hd1 := HR10.out.2.2.2.1
          have hd2 := HR10.out.2.2.2.2
          have HM11 := Lib.hid hm.down
          have hf11 := (HF10.out.trans (HM10.out.fp hgr)).trans (hm.fpg 4 (.int .i64 ((takesF [125] σ5).deep - 1)))
          have hbx := hf11.box HQ2.out.1 HBX.out
          have b0 := hbx.cell 0 rfl
          have b1 := hbx.cell 1 rfl
          rw [← HZ.out] at b0 b1
          have HF11 := Lib.hid (HFB.out.trans (hf11.mono HQ2.out.2.2))
          have HL11 := Lib.hid (HLB.out.mono hf11.below.size)
          clear hm hgr hf11 hbx
          go_wp2_with fail
          refine (refEmit1 base g ts { takesF [125] σ5 with deep := (takesF [125] σ5).deep - 1 } 16 lo hi a _ _ _ (by simp) HM11.out HL11.out (by decide) HSP.out.small HAV.out HR10.out.2.2.1).mono ?_
          rintro e w12 ⟨rfl, hm, hf⟩
          have HM12 := Lib.hid (hm.mono (Pr' := Q) fun b _ hb hp => hb (HQ2.out.2.1 b hp))
          have HF12 := Lib.hid (HF11.out.trans (hf.mono HQ2.out.2.2))
          clear hm hf
          go_wp2_with fail
          go_ret
          exact HTR.out _ _ _ HM12.out HF12.out HR10.out.2.1
      · have HNE := Lib.hid (need_err he2)
        have hne : ((σ2.err : Int) == 0) = false := beq_eq_false_iff_ne.2 (by omega)
        have hne2 : (σ2.err == 0) = false := beq_eq_false_iff_ne.2 he2
        have hm6 := HMB.out
        rw [← HNE.out] at hm6
        have HM6 := Lib.hid hm6
        have HFR := Lib.hid (Fp.refl Q2 base W6)
        clear he2 hm6
        go_wp2_with fail
        rw [HW6.out]
        clear c5
        refine (refMakesU base g ts (needF σ2) false true (Or.inr rfl) _ HM6.out HND.out.1.make HL.out).mono ?_
        rintro e w9 ⟨rfl, hm, hgr⟩
        have HM9 := Lib.hid hm
        have HL9 := Lib.hid (HLB.out.mono hgr.size)
        have HF9 := Lib.hid (HFR.out.trans (HM6.out.fp hgr))
        clear hm hgr
        go_wp2_with fail
        refine (HGG.out Q2 base g ts (makesF false true (needF σ2)) w9 HM9.out HL9.out HMK2.out.1 HLN.out HL.out).mono ?_
        rintro e w10 ⟨a, σ5, rfl, hm, hf, hp⟩
        have HR10 := Lib.hid (HRD.out lo hi a σ2 σ5 HSP.out hp)
        have HM10 := Lib.hid hm
        have HF10 := Lib.hid (HF9.out.trans hf)
        have HAV := Lib.hid hp.val
        clear hm hf hp
        go_wp2_with fail
        refine (refTakesU base g ts σ5 [125] _ HM10.out HR10.out.1 HL.out).mono ?_
        rintro e w11 ⟨rfl, hm, hgr⟩
        obtain ⟨c4, f4⟩ := hm.deepc
        have hd1 := HR10.out.2.2.2.1
        have hd2 := HR10.out.2.2.2.2
        have HM11 := Lib.hid hm.down
        have hf11 := (HF10.out.trans (HM10.out.fp hgr)).trans (hm.fpg 4 (.int .i64 ((takesF [125] σ5).deep - 1)))
        have hbx := hf11.box HQ2.out.1 HBX.out
        have b0 := hbx.cell 0 rfl
        have b1 := hbx.cell 1 rfl
        rw [← HZ.out] at b0 b1
        have HF11 := Lib.hid (HFB.out.trans (hf11.mono HQ2.out.2.2))
        have HL11 := Lib.hid (HLB.out.mono hf11.below.size)
        clear hm hgr hf11 hbx
        go_wp2_with fail
        refine (refEmit1 base g ts { takesF [125] σ5 with deep := (takesF [125] σ5).deep - 1 } 16 lo hi a _ _ _ (by simp) HM11.out HL11.out (by decide) HSP.out.small HAV.out HR10.out.2.2.1).mono ?_
        rintro e w12 ⟨rfl, hm, hf⟩
        have HM12 := Lib.hid (hm.mono (Pr' := Q) fun b _ hb hp => hb (HQ2.out.2.1 b hp))
        have HF12 := Lib.hid (HF11.out.trans (hf.mono HQ2.out.2.2))
        clear hm hf
        go_wp2_with fail
        go_ret
        exact HTR.out _ _ _ HM12.out HF12.out HR10.out.2.1
    rw [Bool.not_eq_true] at s4
    have HS4 := Lib.hid (HSE.out 1 [98, 97, 99, 107])
    rw [s4] at HS4
    refine (HS4.out _ HB3.out).mono ?_
    rintro e w4' ⟨rfl, hb⟩
    have HB4' := Lib.hid (HB3.out.trans (hb.mono HB3.out.size))
    clear hb HS4
    have HNB := Lib.hid s4
    clear s4
    go_wp2_with fail
    by_cases s5 : seesB 1 [102, 111, 114, 101] σ = true
    · have HS5 := Lib.hid (HSE.out 1 [102, 111, 114, 101])
      rw [s5] at HS5
      have hy := (sees_yes s5).2
      have htx : t.text = [102, 111, 114, 101] := by rw [← HTX.out]; exact hy
      have HXT := Lib.hid (show Lex.bytes t.text = { data := #[102, 111, 114, 101] } by rw [htx]; rfl)
      have HY := Lib.hid hy
      clear s5 hy htx HSE
      refine (HS5.out _ HB4'.out).mono ?_
      rintro e w4 ⟨rfl, hb⟩
      have HB4 := Lib.hid (HB4'.out.trans (hb.mono HB4'.out.size))
      clear hb
      have HMK := Lib.hid (make_ready (a := true) (b := false) (Or.inl rfl) HR.out (fun _ => show textOf σ.rest ≠ [] by rw [HY.out]; exact List.cons_ne_nil _ _))
      have HRD := Lib.hid (fun (lo hi a : Int) (σ2 σ5 : RS) (hs : SpanPost 17 (makesF true false σ) lo hi σ2) (hp : Post (.row true 0) (makesF false true (needF σ2)) a σ5) => br_post (g := false) (k := 17) HR.out HE.out (by rw [HY.out]; rfl) (by decide) (by rw [HY.out]; exact List.cons_ne_nil _ _) hs hp)
      have HM4 := Lib.hid (HMQ.out.later HB4.out)
      have HF4 := Lib.hid (HFW.out.trans (Fp.later (Pr := Pr) HB4.out HMQ.out.low))
      have HL4 := Lib.hid (HLQ.out.mono HB4.out.size)
      have hx4 := HXB.out.later HB4.out
      have x1 := hx4.cell 1 rfl
      rw [HXT.out, ← HX.out] at x1
      clear hx4
      go_wp2_with fail
      clear x1
      refine (refMakesU base g ts σ true false (Or.inl rfl) _ HM4.out HR.out.make HL.out).mono ?_
      rintro e w5 ⟨rfl, hm, hgr⟩
      have HM5 := Lib.hid hm
      have HL5 := Lib.hid (HL4.out.mono hgr.size)
      have HF5 := Lib.hid (HF4.out.trans ((HM4.out.fp hgr).mono HQ.out.2))
      clear hm hgr
      go_wp2_with fail
      refine (refSpan base g ts (makesF true false σ) w5 HM5.out HL5.out HMK.out.1 HL.out).mono ?_
      rintro e w6 ⟨lo, hi, σ2, rfl, hm, hf, hsp⟩
      have HSP := Lib.hid (hsp 17 (by decide) (by decide))
      have HL6 := Lib.hid (HL5.out.mono hf.below.size)
      have HF6 := Lib.hid (HF5.out.trans (hf.mono HQ.out.2))
      have HRB := Lib.hid (HSP.out.ready HMK.out.1)
      have HMB := Lib.hid (hm.boxed (.cells #[.int .i64 lo, .int .i64 hi] 33))
      have HLB := Lib.hid (Lw.box HL6.out (.cells #[.int .i64 lo, .int .i64 hi] 33))
      have HBX := Lib.hid (Blk.new w6 #[.int .i64 lo, .int .i64 hi] 33 _ rfl)
      have HFB := Lib.hid (HF6.out.trans (Fp.later (Pr := Pr) ((Below.refl _ _).alloc (Nat.le_refl _) (.cells #[.int .i64 lo, .int .i64 hi] 33)) hm.low))
      obtain ⟨Q2, hQ2⟩ : ∃ Q2 : Nat → Prop, (fun b => Q b ∨ b = w6.heap.size) = Q2 := ⟨_, rfl⟩
      rw [hQ2] at HMB HLB
      have HQ2 := Lib.hid (show Q2 w6.heap.size ∧ (∀ b, Q b → Q2 b) ∧ (∀ b, Pr b → Q2 b) by rw [← hQ2]; exact ⟨Or.inr rfl, fun b hb => Or.inl hb, fun b hb => Or.inl (HQ.out.2 b hb)⟩)
      clear hm hf hsp hQ2
      obtain ⟨W6, hW6⟩ : ∃ W6, w6.alloc (.cells #[.int .i64 lo, .int .i64 hi] 33) = W6 := ⟨_, rfl⟩
      have HW6 := Lib.hid hW6
      rw [hW6] at HMB HLB HBX HFB
      obtain ⟨Z, hZ⟩ : ∃ Z, w6.heap.size = Z := ⟨_, rfl⟩
      have HZ := Lib.hid hZ
      rw [hZ] at HBX HQ2
      have c5 := HMB.out.errc
      rw [← hW6] at c5
      clear hW6 hZ
      have HND := Lib.hid (need_ready HRB.out.1)
      have HMK2 := Lib.hid (make_ready (a := false) (b := true) (Or.inr rfl) HND.out.1 (fun he => show textOf (needF σ2).rest ≠ [] by rw [(HND.out.2 he).2.1]; exact List.cons_ne_nil _ _))
      have HLN := Lib.hid (fun he => show (makesF false true (needF σ2)).rest.length ≤ n - 1 by
        obtain ⟨q1, q2⟩ := HMK2.out.2 he
        obtain ⟨q3, -, q4⟩ := HND.out.2 q1
        obtain ⟨q5, q6⟩ := HRB.out.2 q3
        have q7 := (HMK.out.2 q5).2
        have := HN.out
        omega)
      by_cases he2 : σ2.err = 0
      · rw [he2] at c5
        have HNB2 := Lib.hid (needs_bool HRB.out.1 he2)
        have HSQ := Lib.hid (refSeesU base g ts σ2 3 [123] _ HMB.out HRB.out.1.some HL.out)
        clear he2
        by_cases hsb : seesB 3 [123] σ2 = true
        · rw [hsb] at HSQ
          rw [hsb, if_pos rfl] at HNB2
          clear hsb
          go_wp2_with fail
          rw [HW6.out]
          refine HSQ.out.mono ?_
          rintro e w7 ⟨rfl, hb⟩
          have hm7 := HMB.out.later hb
          rw [← HNB2.out] at hm7
          have HM7 := Lib.hid hm7
          have HL7 := Lib.hid (HLB.out.mono hb.size)
          have HF7 := Lib.hid (Fp.later (Pr := Q2) hb HMB.out.low)
          clear hb hm7 c5
          go_wp2_with fail
          refine (refMakesU base g ts (needF σ2) false true (Or.inr rfl) _ HM7.out HND.out.1.make HL.out).mono ?_
          rintro e w9 ⟨rfl, hm, hgr⟩
          have HM9 := Lib.hid hm
          have HL9 := Lib.hid (HL7.out.mono hgr.size)
          have HF9 := Lib.hid (HF7.out.trans (HM7.out.fp hgr))
          clear hm hgr
          go_wp2_with fail
          refine (HGG.out Q2 base g ts (makesF false true (needF σ2)) w9 HM9.out HL9.out HMK2.out.1 HLN.out HL.out).mono ?_
          rintro e w10 ⟨a, σ5, rfl, hm, hf, hp⟩
          have HR10 := Lib.hid (HRD.out lo hi a σ2 σ5 HSP.out hp)
          have HM10 := Lib.hid hm
          have HF10 := Lib.hid (HF9.out.trans hf)
          have HAV := Lib.hid hp.val
          clear hm hf hp
          go_wp2_with fail
          refine (refTakesU base g ts σ5 [125] _ HM10.out HR10.out.1 HL.out).mono ?_
          rintro e w11 ⟨rfl, hm, hgr⟩
          obtain ⟨c4, f4⟩ := hm.deepc
          have hd1 := HR10.out.2.2.2.1
          have hd2 := HR10.out.2.2.2.2
          have HM11 := Lib.hid hm.down
          have hf11 := (HF10.out.trans (HM10.out.fp hgr)).trans (hm.fpg 4 (.int .i64 ((takesF [125] σ5).deep - 1)))
          have hbx := hf11.box HQ2.out.1 HBX.out
          have b0 := hbx.cell 0 rfl
          have b1 := hbx.cell 1 rfl
          rw [← HZ.out] at b0 b1
          have HF11 := Lib.hid (HFB.out.trans (hf11.mono HQ2.out.2.2))
          have HL11 := Lib.hid (HLB.out.mono hf11.below.size)
          clear hm hgr hf11 hbx
          go_wp2_with fail
          refine (refEmit1 base g ts { takesF [125] σ5 with deep := (takesF [125] σ5).deep - 1 } 17 lo hi a _ _ _ (by simp) HM11.out HL11.out (by decide) HSP.out.small HAV.out HR10.out.2.2.1).mono ?_
          rintro e w12 ⟨rfl, hm, hf⟩
          have HM12 := Lib.hid (hm.mono (Pr' := Q) fun b _ hb hp => hb (HQ2.out.2.1 b hp))
          have HF12 := Lib.hid (HF11.out.trans (hf.mono HQ2.out.2.2))
          clear hm hf
          go_wp2_with fail
          go_ret
          exact HTR.out _ _ _ HM12.out HF12.out HR10.out.2.1
        · rw [Bool.not_eq_true] at hsb
          rw [hsb] at HSQ
          rw [hsb, if_neg (by decide)] at HNB2
          clear hsb
          go_wp2_with fail
          rw [HW6.out]
          refine HSQ.out.mono ?_
          rintro e w7 ⟨rfl, hb⟩
          have HM7 := Lib.hid (HMB.out.later hb)
          have HL7 := Lib.hid (HLB.out.mono hb.size)
          have HF7 := Lib.hid (Fp.later (Pr := Q2) hb HMB.out.low)
          clear hb c5
          go_wp2_with fail
          refine (refBadU base g ts σ2 2 _ HM7.out HRB.out.1.some HL.out).mono ?_
          rintro e w8 ⟨rfl, hm, hgr⟩
          rw [← HNB2.out] at hm
          have HM8 := Lib.hid hm
          have HL8 := Lib.hid (HL7.out.mono hgr.size)
          have HF8 := Lib.hid (HF7.out.trans (HM7.out.fp hgr))
          clear hm hgr
          go_wp2_with fail
          refine (refMakesU base g ts (needF σ2) false true (Or.inr rfl) _ HM8.out HND.out.1.make HL.out).mono ?_
          rintro e w9 ⟨rfl, hm, hgr⟩
          have HM9 := Lib.hid hm
          have HL9 := Lib.hid (HL8.out.mono hgr.size)
          have HF9 := Lib.hid (HF8.out.trans (HM8.out.fp hgr))
          clear hm hgr
          go_wp2_with fail
          refine (HGG.out Q2 base g ts (makesF false true (needF σ2)) w9 HM9.out HL9.out HMK2.out.1 HLN.out HL.out).mono ?_
          rintro e w10 ⟨a, σ5, rfl, hm, hf, hp⟩
          have HR10 := Lib.hid (HRD.out lo hi a σ2 σ5 HSP.out hp)
          have HM10 := Lib.hid hm
          have HF10 := Lib.hid (HF9.out.trans hf)
          have HAV := Lib.hid hp.val
          clear hm hf hp
          go_wp2_with fail
          refine (refTakesU base g ts σ5 [125] _ HM10.out HR10.out.1 HL.out).mono ?_
          rintro e w11 ⟨rfl, hm, hgr⟩
          obtain ⟨c4, f4⟩ := hm.deepc
          have hd1 := HR10.out.2.2.2.1
          have hd2 := HR10.out.2.2.2.2
          have HM11 := Lib.hid hm.down
          have hf11 := (HF10.out.trans (HM10.out.fp hgr)).trans (hm.fpg 4 (.int .i64 ((takesF [125] σ5).deep - 1)))
          have hbx := hf11.box HQ2.out.1 HBX.out
          have b0 := hbx.cell 0 rfl
          have b1 := hbx.cell 1 rfl
          rw [← HZ.out] at b0 b1
          have HF11 := Lib.hid (HFB.out.trans (hf11.mono HQ2.out.2.2))
          have HL11 := Lib.hid (HLB.out.mono hf11.below.size)
          clear hm hgr hf11 hbx
          go_wp2_with fail
          refine (refEmit1 base g ts { takesF [125] σ5 with deep := (takesF [125] σ5).deep - 1 } 17 lo hi a _ _ _ (by simp) HM11.out HL11.out (by decide) HSP.out.small HAV.out HR10.out.2.2.1).mono ?_
          rintro e w12 ⟨rfl, hm, hf⟩
          have HM12 := Lib.hid (hm.mono (Pr' := Q) fun b _ hb hp => hb (HQ2.out.2.1 b hp))
          have HF12 := Lib.hid (HF11.out.trans (hf.mono HQ2.out.2.2))
          clear hm hf
          go_wp2_with fail
          go_ret
          exact HTR.out _ _ _ HM12.out HF12.out HR10.out.2.1
      · have HNE := Lib.hid (need_err he2)
        have hne : ((σ2.err : Int) == 0) = false := beq_eq_false_iff_ne.2 (by omega)
        have hne2 : (σ2.err == 0) = false := beq_eq_false_iff_ne.2 he2
        have hm6 := HMB.out
        rw [← HNE.out] at hm6
        have HM6 := Lib.hid hm6
        have HFR := Lib.hid (Fp.refl Q2 base W6)
        clear he2 hm6
        go_wp2_with fail
        rw [HW6.out]
        clear c5
        refine (refMakesU base g ts (needF σ2) false true (Or.inr rfl) _ HM6.out HND.out.1.make HL.out).mono ?_
        rintro e w9 ⟨rfl, hm, hgr⟩
        have HM9 := Lib.hid hm
        have HL9 := Lib.hid (HLB.out.mono hgr.size)
        have HF9 := Lib.hid (HFR.out.trans (HM6.out.fp hgr))
        clear hm hgr
        go_wp2_with fail
        refine (HGG.out Q2 base g ts (makesF false true (needF σ2)) w9 HM9.out HL9.out HMK2.out.1 HLN.out HL.out).mono ?_
        rintro e w10 ⟨a, σ5, rfl, hm, hf, hp⟩
        have HR10 := Lib.hid (HRD.out lo hi a σ2 σ5 HSP.out hp)
        have HM10 := Lib.hid hm
        have HF10 := Lib.hid (HF9.out.trans hf)
        have HAV := Lib.hid hp.val
        clear hm hf hp
        go_wp2_with fail
        refine (refTakesU base g ts σ5 [125] _ HM10.out HR10.out.1 HL.out).mono ?_
        rintro e w11 ⟨rfl, hm, hgr⟩
        obtain ⟨c4, f4⟩ := hm.deepc
        have hd1 := HR10.out.2.2.2.1
        have hd2 := HR10.out.2.2.2.2
        have HM11 := Lib.hid hm.down
        have hf11 := (HF10.out.trans (HM10.out.fp hgr)).trans (hm.fpg 4 (.int .i64 ((takesF [125] σ5).deep - 1)))
        have hbx := hf11.box HQ2.out.1 HBX.out
        have b0 := hbx.cell 0 rfl
        have b1 := hbx.cell 1 rfl
        rw [← HZ.out] at b0 b1
        have HF11 := Lib.hid (HFB.out.trans (hf11.mono HQ2.out.2.2))
        have HL11 := Lib.hid (HLB.out.mono hf11.below.size)
        clear hm hgr hf11 hbx
        go_wp2_with fail
        refine (refEmit1 base g ts { takesF [125] σ5 with deep := (takesF [125] σ5).deep - 1 } 17 lo hi a _ _ _ (by simp) HM11.out HL11.out (by decide) HSP.out.small HAV.out HR10.out.2.2.1).mono ?_
        rintro e w12 ⟨rfl, hm, hf⟩
        have HM12 := Lib.hid (hm.mono (Pr' := Q) fun b _ hb hp => hb (HQ2.out.2.1 b hp))
        have HF12 := Lib.hid (HF11.out.trans (hf.mono HQ2.out.2.2))
        clear hm hf
        go_wp2_with fail
        go_ret
        exact HTR.out _ _ _ HM12.out HF12.out HR10.out.2.1
    rw [Bool.not_eq_true] at s5
    have HS5 := Lib.hid (HSE.out 1 [102, 111, 114, 101])
    rw [s5] at HS5
    refine (HS5.out _ HB4'.out).mono ?_
    rintro e w5 ⟨rfl, hb⟩
    have HB5 := Lib.hid (HB4'.out.trans (hb.mono HB4'.out.size))
    clear hb HS5
    have HM5 := Lib.hid (HMQ.out.later HB5.out)
    have HF5 := Lib.hid (HFW.out.trans (Fp.later (Pr := Pr) HB5.out HMQ.out.low))
    have HL5 := Lib.hid (HLQ.out.mono HB5.out.size)
    have hx5 := HXB.out.later HB5.out
    have x0 := hx5.cell 0 rfl
    have x1 := hx5.cell 1 rfl
    rw [← HX.out] at x0 x1
    have HX5 := Lib.hid hx5
    clear hx5
    have HNO := Lib.hid (show t.text ≠ [116, 114, 117, 101] ∧ t.text ≠ [102, 97, 108, 115, 101] ∧ t.text ≠ [98, 97, 99, 107] ∧ t.text ≠ [102, 111, 114, 101] ∧ t.text ≠ [40] by
      have g1 := HNT.out
      have g2 := HNF.out
      have g3 := HNB.out
      have g4 := HNP.out
      rw [sees_word HE.out HGD.out (by decide), decide_eq_false_iff_not, HTX.out] at g1 g2 g3 s5
      rw [sees_sign HE.out HGD.out (by decide), decide_eq_false_iff_not, HTX.out] at g4
      exact ⟨g1, g2, g3, s5, g4⟩)
    have hsz : (Lex.bytes t.text).size ≤ maxLen := by have : maxLen = 9223372036854775807 := rfl; have := HTL.out; show t.text.length ≤ _; omega
    have HNM := Lib.hid (fun W => refName (Lex.bytes t.text) W hsz)
    have HSZ := Lib.hid hsz
    clear s5 hsz HSE
    by_cases hk : t.kind = 1
    · have hki : ((t.kind : Int) == 1) = true := beq_iff_eq.2 (by omega)
      rw [hk] at x0
      by_cases hnm : nameS t.text = true
      · rw [bytes_list, hnm] at HNM
        have HRD := Lib.hid (leaf_post (g := false) (n := ⟨3, Lex.bytes t.text, 0, 0, []⟩) HR.out HE.out (by rw [HTX.out]; exact leaf_name HNO.out.1 HNO.out.2.1 hnm) (by rw [HTX.out]; obtain ⟨c, r, h1, -⟩ := name_small hnm; rw [h1]; exact List.cons_ne_nil _ _))
        clear hk hki hnm
        go_wp2_with fail
        refine (HNM.out _).mono ?_
        rintro e w6 ⟨rfl, rfl⟩
        go_wp2_with fail
        clear x0 x1
        refine (refMakesU base g ts σ true false (Or.inl rfl) _ HM5.out HR.out.make HL.out).mono ?_
        rintro e w7 ⟨rfl, hm, hgr⟩
        have hx7 := (HM5.out.fp hgr).box HQ.out.1 HX5.out
        have x1 := hx7.cell 1 rfl
        rw [← HX.out] at x1
        have HM7 := Lib.hid hm
        have HL7 := Lib.hid (HL5.out.mono hgr.size)
        have HF7 := Lib.hid (HF5.out.trans ((HM5.out.fp hgr).mono HQ.out.2))
        clear hm hgr hx7
        go_wp2_with fail
        refine (refEmit0 base g ts (makesF true false σ) 3 (Lex.bytes t.text) w7 HM7.out HL7.out (by decide) HSZ.out HRD.out.2).mono ?_
        rintro e w8 ⟨rfl, hm, hf⟩
        have HM8 := Lib.hid hm
        have HF8 := Lib.hid (HF7.out.trans (hf.mono HQ.out.2))
        clear hm hf
        go_wp2_with fail
        go_ret
        exact HTR.out _ _ _ HM8.out HF8.out HRD.out.1
      · rw [Bool.not_eq_true] at hnm
        rw [bytes_list, hnm] at HNM
        have HRD := Lib.hid (none_post (g := false) HR.out HE.out (by rw [HTX.out]; exact leaf_none HNO.out.1 HNO.out.2.1 hnm) (by rw [HTX.out]; exact HNO.out.2.2.2.2) (by rw [HTX.out]; exact brace_none HNO.out.2.2.1 HNO.out.2.2.2.1) HP.out)
        clear hk hki hnm
        go_wp2_with fail
        refine (HNM.out _).mono ?_
        rintro e w6 ⟨rfl, rfl⟩
        go_wp2_with fail
        clear x0 x1
        refine (refBadU base g ts σ 2 _ HM5.out (HR.out.some) HL.out).mono ?_
        rintro e w7 ⟨rfl, hm, hgr⟩
        have HM7 := Lib.hid hm
        have HF7 := Lib.hid (HF5.out.trans ((HM5.out.fp hgr).mono HQ.out.2))
        clear hm hgr
        go_wp2_with fail
        go_ret
        exact HTR.out _ _ _ HM7.out HF7.out HRD.out
    · have hki : ((t.kind : Int) == 1) = false := beq_eq_false_iff_ne.2 (by omega)
      have hkn : (t.kind == 1) = false := beq_eq_false_iff_ne.2 hk
      have hnm : nameS t.text = false := by
        rw [← Bool.not_eq_true]
        intro h
        exact hk (name_kind HTK.out h)
      have HRD := Lib.hid (none_post (g := false) HR.out HE.out (by rw [HTX.out]; exact leaf_none HNO.out.1 HNO.out.2.1 hnm) (by rw [HTX.out]; exact HNO.out.2.2.2.2) (by rw [HTX.out]; exact brace_none HNO.out.2.2.1 HNO.out.2.2.2.1) HP.out)
      clear hk hnm
      go_wp2_with fail
      clear x0 x1
      refine (refBadU base g ts σ 2 _ HM5.out (HR.out.some) HL.out).mono ?_
      rintro e w7 ⟨rfl, hm, hgr⟩
      have HM7 := Lib.hid hm
      have HF7 := Lib.hid (HF5.out.trans ((HM5.out.fp hgr).mono HQ.out.2))
      clear hm hgr
      go_wp2_with fail
      go_ret
      exact HTR.out _ _ _ HM7.out HF7.out HRD.out
end Go.Proofs.YtnoghlhggeffnaaGreatDoor.Parse
