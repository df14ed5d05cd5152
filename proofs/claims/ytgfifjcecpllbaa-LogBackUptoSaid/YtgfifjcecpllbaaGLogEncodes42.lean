/-
  The walk of the law LogBack (stage 10). By an AI agent.
-/
import Derived.Test.YtgfifjcecpllbaaGLogEncodes39
namespace Go.Proofs.Ytgfifjcecpllbaa.Log
open Go.RowKit Go.Proofs.Ytgfifjcecpllbaa.Ints Go.Proofs.Ytgfifjcecpllbaa.Mem Go.Proofs.Ytgfifjcecpllbaa.SumMath Go.Proofs.Ytgfifjcecpllbaa.SumWalks Go.Proofs.Ytgfifjcecpllbaa.Trace Go.Proofs.Ytgfifjcecpllbaa.Record

set_option maxHeartbeats 8000000 in
set_option maxRecDepth 100000 in
theorem lawBack (NA : Option Addr) (nn nc : Nat) (EA : Option Addr) (ne ec : Nat) (t : Tr) (start : Int) (N : Option Addr) (k kc : Nat) (ns : List Int) (w : World) (h : TrOk Any w NA nn nc EA ne ec t) (hne : ne ≤ 700000) (hs : 0 ≤ start ∧ start ≤ 18446744073709551615) (hN : Rd .u16 w N k ns) (hk : k ≤ maxLen) :
    Calls Try.prog 7 #[.agg #[.slice NA nn nc, .slice EA ne ec], .int .u64 start, .slice N k kc] w fun e w' => e = .returned (.bool true) ∧ Below w.heap.size w w' := by
  have q63 : maxLen = 9223372036854775807 := rfl
  have e0 := Blk.new w #[.slice NA nn nc, .slice EA ne ec] 25 [.slice NA nn nc, .slice EA ne ec] rfl
  have hbx := (Below.refl _ w).alloc (Nat.le_refl _) (.cells #[.slice NA nn nc, .slice EA ne ec] 25)
  obtain ⟨w0, hw0⟩ : ∃ w0, w.alloc (.cells #[.slice NA nn nc, .slice EA ne ec] 25) = w0 := ⟨_, rfl⟩
  rw [hw0] at e0 hbx
  have FE := lawMake start N k kc ns w0 hs (hN.below hbx) hk
  have hsm := (make_small start ns).1
  obtain ⟨u, hu⟩ : ∃ u, makeM start ns = u := ⟨_, rfl⟩
  rw [hu] at FE hsm
  have HE := Lib.hid FE
  have E0 := Lib.hid e0
  have HBX := Lib.hid hbx
  have HX := Lib.hid h
  clear FE e0 hbx h hu hN
  go_enter Try.func7, Try.ntmps7
  go_wp2_with fail
  refine HE.out.mono ?_
  rintro e w2 ⟨NB, mn, mc, EB, me, mec, rfl, hk2, hB2⟩
  have hme : me ≤ 60 := by have := hk2.elen; omega
  have hal := (Below.refl _ w2).alloc (Nat.le_refl _) (.cells #[.slice NB mn mc, .slice EB me mec] 25)
  have e1 := (E0.out.later hB2).later hal
  have r2 := Blk.new w2 #[.slice NB mn mc, .slice EB me mec] 25 [.slice NB mn mc, .slice EB me mec] rfl
  have hB02 := HBX.out.trans (hB2.mono HBX.out.size)
  have HB3 := Lib.hid (hB02.trans (hal.mono hB02.size))
  have HT3 := Lib.hid (HX.out.below (hB02.trans (hal.mono hB02.size)))
  have HU3 := Lib.hid (hk2.below hal)
  obtain ⟨w3, hw3⟩ : ∃ w3, w2.alloc (.cells #[.slice NB mn mc, .slice EB me mec] 25) = w3 := ⟨_, rfl⟩
  obtain ⟨g2, hg2⟩ : ∃ g2, w2.heap.size = g2 := ⟨_, rfl⟩
  rw [hw3] at e1 r2 HB3 HT3 HU3
  rw [hg2] at r2
  have p0 := e1.cell 0 rfl
  have p1 := e1.cell 1 rfl
  have r0 := r2.cell 0 rfl
  have r1 := r2.cell 1 rfl
  clear hw0 hk2 hB2 hal hB02 HX E0 HE e1 r2
  go_wp2_with fail
  clear hw3 hg2 p0 p1 r0 r1 w2
  go_loopw [23] (fun iv wr => ∃ i : Nat, i ≤ 2 ∧ iv = .int .i64 i ∧ Below w3.heap.size w3 wr) (fun iv _ => 2 - (intOf iv).toNat)
  case atStart => exact ⟨0, by omega, rfl, Below.refl _ _⟩
  case round =>
    obtain ⟨i, hi, rfl, hBr⟩ := hrel
    by_cases hi0 : i = 0
    · subst hi0
      have hix : ∀ W, (Instr.index 42 (.agg #[.slice NA nn nc, .slice EA ne ec, .slice NB mn mc, .slice EB me mec]) (.int .i64 0)).run Try.prog W = .ok (.agg #[.slice NA nn nc, .slice EA ne ec]) W := fun W => by kernel_rfl
      have hal := (Below.refl _ wr).alloc (Nat.le_refl _) (.cells #[.slice NA nn nc, .slice EA ne ec] 25)
      have ht4 := Blk.new wr #[.slice NA nn nc, .slice EA ne ec] 25 [.slice NA nn nc, .slice EA ne ec] rfl
      have hok4 := (HT3.out.below hBr).below hal
      have hb4 := hBr.trans (hal.mono hBr.size)
      obtain ⟨w4, hw4⟩ : ∃ w4, wr.alloc (.cells #[.slice NA nn nc, .slice EA ne ec] 25) = w4 := ⟨_, rfl⟩
      obtain ⟨g4, hg4⟩ : ∃ g4, wr.heap.size = g4 := ⟨_, rfl⟩
      rw [hw4] at ht4 hok4 hb4
      rw [hg4] at ht4
      have HB4 := Lib.hid hb4
      have HT4 := Lib.hid ht4
      have HO4 := Lib.hid hok4
      have FM := refMay NA nn nc EA ne ec t w4 hok4
      have x0 := ht4.cell 0 rfl
      have x1 := ht4.cell 1 rfl
      clear hal ht4 hok4 hb4 hBr
      cases hm : mayT t
      · rw [hm] at FM
        have HFM := Lib.hid FM
        have HEN := Lib.hid (show encL t = [] by unfold encL; rw [hm]; rfl)
        clear FM hm
        go_wp2_with fail
        refine HFM.out.mono ?_
        rintro e w5 ⟨rfl, hB5⟩
        have t5 := HT4.out.later hB5
        have z0 := t5.cell 0 rfl
        have z1 := t5.cell 1 rfl
        have HB5 := Lib.hid (HB4.out.trans (hB5.mono HB4.out.size))
        have HFE := Lib.hid (HEN.out ▸ landEncode NA nn nc EA ne ec t w5 (HO4.out.below hB5) (by omega))
        clear t5 hB5 x0 x1 hw4 hg4 hix HFM HT4 HO4
        go_wp2_with fail
        refine HFE.out.mono ?_
        rintro e w6 hmade
        obtain ⟨A, c, rfl, -, -, -, -, -, hB6⟩ := made_slice hmade (fun z hz => by cases hz)
        have HB6 := Lib.hid (HB5.out.trans (hB6.mono HB5.out.size))
        clear hmade hB6 HFE
        go_wp2_with fail
        go_roundw
        case rel => exact ⟨0 + 1, by omega, by go_num, HB6.out⟩
        case measure => simp [intOf]
      · rw [hm] at FM
        have HFM := Lib.hid FM
        have hnl := HT3.out.nlen
        have hel := HT3.out.elen
        have hdec := dec_enc hm (tr_times HT3.out)
        have hhd := enc_head hm
        have hle := head_le_enc hm
        have hby := enc_bytes t
        have hlen : (encL t).length ≤ 58000000 := by
          have h4 := head_len ((mayT_iff t).1 hm).1
          have h5 := recs_len (es := t.events) (fun e he => may_len hm e he)
          rw [enc_eq hm, List.length_append]
          omega
        obtain ⟨b, hb⟩ : ∃ b, encL t = b := ⟨_, rfl⟩
        rw [hb] at hdec hhd hle hby hlen
        obtain ⟨n, hn⟩ : ∃ n, b.length = n := ⟨_, rfl⟩
        rw [hn] at hle hlen
        obtain ⟨hd, hhl⟩ : ∃ hd, (headL t.names).length = hd := ⟨_, rfl⟩
        rw [hhl] at hhd hle
        have HHD := Lib.hid hhd
        have HDC := Lib.hid hdec
        have HBY := Lib.hid hby
        have HLN := Lib.hid hn
        have HEB := Lib.hid hb
        have HNL := Lib.hid hnl
        have HEL := Lib.hid hel
        have hle' : ¬ ((hd : Int) > (n : Int)) := by omega
        clear FM hm hhd hdec hby hn hb hnl hel hhl
        go_wp2_with fail
        refine HFM.out.mono ?_
        rintro e w5 ⟨rfl, hB5⟩
        have HT5 := Lib.hid (HT4.out.later hB5)
        have HO5 := Lib.hid (HO4.out.below hB5)
        have z0 := HT5.out.cell 0 rfl
        have z1 := HT5.out.cell 1 rfl
        have HB5 := Lib.hid (HB4.out.trans (hB5.mono HB4.out.size))
        have HFE := Lib.hid (landEncode NA nn nc EA ne ec t w5 HO5.out (by omega))
        clear hB5 x0 x1 hw4 hg4 hix HFM HT4 HO4
        go_wp2_with fail
        refine HFE.out.mono ?_
        rintro e w6 hmade
        rw [HEB.out] at hmade
        obtain ⟨A, c, rfl, hrd, hnc, hcm, -, -, hB6⟩ := made_slice hmade (u8_all HBY.out)
        rw [HLN.out] at hrd hnc ⊢
        have HB6 := Lib.hid (HB5.out.trans (hB6.mono HB5.out.size))
        have HT6 := Lib.hid (HT5.out.later hB6)
        have HO6 := Lib.hid (HO5.out.below hB6)
        have HR6 := Lib.hid hrd
        have FD := landDecode A n c b w6 hnc hcm hlen hrd
        unfold GotDec decT decE at FD
        rw [HDC.out] at FD
        simp only at FD
        rw [HNL.out, HEL.out] at FD
        have HFD := Lib.hid FD
        clear hmade hB6 hrd FD HFE HT5 HO5 z0 z1
        go_wp2_with fail
        refine HFD.out.mono ?_
        rintro e w7 ⟨NC, cc, EC, cec, rfl, hok7, hB7⟩
        have hal := (Below.refl _ w7).alloc (Nat.le_refl _) (.cells #[.slice NC nn cc, .slice EC ne cec] 25)
        have HU8 := Lib.hid (Blk.new w7 #[.slice NC nn cc, .slice EC ne cec] 25 [.slice NC nn cc, .slice EC ne cec] rfl)
        have HT8 := Lib.hid ((HT6.out.later hB7).later hal)
        have HO8 := Lib.hid ((HO6.out.below hB7).below hal)
        have HV8 := Lib.hid (hok7.below hal)
        have HR8 := Lib.hid ((HR6.out.below hB7).below hal)
        have hb67 := HB6.out.trans (hB7.mono HB6.out.size)
        have HB8 := Lib.hid (hb67.trans (hal.mono hb67.size))
        obtain ⟨w8, hw8⟩ : ∃ w8, w7.alloc (.cells #[.slice NC nn cc, .slice EC ne cec] 25) = w8 := ⟨_, rfl⟩
        obtain ⟨g7, hg7⟩ : ∃ g7, w7.heap.size = g7 := ⟨_, rfl⟩
        rw [hw8] at HU8 HT8 HO8 HV8 HR8 HB8
        rw [hg7] at HU8
        have FH := landHead A n c b w8 hnc hcm hlen HR8.out
        unfold GotHead at FH
        rw [HHD.out] at FH
        simp only at FH
        rw [HNL.out] at FH
        have HFH := Lib.hid FH
        clear hal hok7 hB7 hb67 HT6 HO6 HR6 HFD FH
        go_wp2_with fail
        clear hw8 hg7 w7
        refine HFH.out.mono ?_
        rintro e w9 ⟨L, cl, rfl, -, hB9⟩
        have HT9 := Lib.hid (HT8.out.later hB9)
        have HU9 := Lib.hid (HU8.out.later hB9)
        have a0 := HT9.out.cell 0 rfl
        have a1 := HT9.out.cell 1 rfl
        have c0 := HU9.out.cell 0 rfl
        have c1 := HU9.out.cell 1 rfl
        have HFS := Lib.hid (sameSelf NA nn nc EA ne ec NC nn cc EC ne cec t w9 (HO8.out.below hB9) (HV8.out.below hB9))
        have HB9 := Lib.hid (HB8.out.trans (hB9.mono HB8.out.size))
        clear hB9 HT8 HU8 HO8 HV8 HFH
        go_wp2_with fail
        refine HFS.out.mono ?_
        rintro e w10 ⟨rfl, hB10⟩
        have HB10 := Lib.hid (HB9.out.trans (hB10.mono HB9.out.size))
        have t10 := HT9.out.later hB10
        have d0 := t10.cell 0 rfl
        have d1 := t10.cell 1 rfl
        clear a0 a1 c0 c1 t10 hB10
        go_wp2_with fail
        go_roundw
        case rel => exact ⟨0 + 1, by omega, by go_num, HB10.out⟩
        case measure => simp [intOf]
    by_cases hi1 : i = 1
    · subst hi1
      have hix : ∀ W, (Instr.index 42 (.agg #[.slice NA nn nc, .slice EA ne ec, .slice NB mn mc, .slice EB me mec]) (.int .i64 1)).run Try.prog W = .ok (.agg #[.slice NB mn mc, .slice EB me mec]) W := fun W => by kernel_rfl
      have hal := (Below.refl _ wr).alloc (Nat.le_refl _) (.cells #[.slice NB mn mc, .slice EB me mec] 25)
      have ht4 := Blk.new wr #[.slice NB mn mc, .slice EB me mec] 25 [.slice NB mn mc, .slice EB me mec] rfl
      have hok4 := (HU3.out.below hBr).below hal
      have hb4 := hBr.trans (hal.mono hBr.size)
      obtain ⟨w4, hw4⟩ : ∃ w4, wr.alloc (.cells #[.slice NB mn mc, .slice EB me mec] 25) = w4 := ⟨_, rfl⟩
      obtain ⟨g4, hg4⟩ : ∃ g4, wr.heap.size = g4 := ⟨_, rfl⟩
      rw [hw4] at ht4 hok4 hb4
      rw [hg4] at ht4
      have HB4 := Lib.hid hb4
      have HT4 := Lib.hid ht4
      have HO4 := Lib.hid hok4
      have FM := refMay NB mn mc EB me mec u w4 hok4
      have x0 := ht4.cell 0 rfl
      have x1 := ht4.cell 1 rfl
      clear hal ht4 hok4 hb4 hBr
      cases hm : mayT u
      · rw [hm] at FM
        have HFM := Lib.hid FM
        have HEN := Lib.hid (show encL u = [] by unfold encL; rw [hm]; rfl)
        clear FM hm
        go_wp2_with fail
        refine HFM.out.mono ?_
        rintro e w5 ⟨rfl, hB5⟩
        have t5 := HT4.out.later hB5
        have z0 := t5.cell 0 rfl
        have z1 := t5.cell 1 rfl
        have HB5 := Lib.hid (HB4.out.trans (hB5.mono HB4.out.size))
        have HFE := Lib.hid (HEN.out ▸ landEncode NB mn mc EB me mec u w5 (HO4.out.below hB5) (by omega))
        clear t5 hB5 x0 x1 hw4 hg4 hix HFM HT4 HO4
        go_wp2_with fail
        refine HFE.out.mono ?_
        rintro e w6 hmade
        obtain ⟨A, c, rfl, -, -, -, -, -, hB6⟩ := made_slice hmade (fun z hz => by cases hz)
        have HB6 := Lib.hid (HB5.out.trans (hB6.mono HB5.out.size))
        clear hmade hB6 HFE
        go_wp2_with fail
        go_roundw
        case rel => exact ⟨1 + 1, by omega, by go_num, HB6.out⟩
        case measure => simp [intOf]
      · rw [hm] at FM
        have HFM := Lib.hid FM
        have hnl := HU3.out.nlen
        have hel := HU3.out.elen
        have hdec := dec_enc hm (tr_times HU3.out)
        have hhd := enc_head hm
        have hle := head_le_enc hm
        have hby := enc_bytes u
        have hlen : (encL u).length ≤ 58000000 := by
          have h4 := head_len ((mayT_iff u).1 hm).1
          have h5 := recs_len (es := u.events) (fun e he => may_len hm e he)
          rw [enc_eq hm, List.length_append]
          omega
        obtain ⟨b, hb⟩ : ∃ b, encL u = b := ⟨_, rfl⟩
        rw [hb] at hdec hhd hle hby hlen
        obtain ⟨n, hn⟩ : ∃ n, b.length = n := ⟨_, rfl⟩
        rw [hn] at hle hlen
        obtain ⟨hd, hhl⟩ : ∃ hd, (headL u.names).length = hd := ⟨_, rfl⟩
        rw [hhl] at hhd hle
        have HHD := Lib.hid hhd
        have HDC := Lib.hid hdec
        have HBY := Lib.hid hby
        have HLN := Lib.hid hn
        have HEB := Lib.hid hb
        have HNL := Lib.hid hnl
        have HEL := Lib.hid hel
        have hle' : ¬ ((hd : Int) > (n : Int)) := by omega
        clear FM hm hhd hdec hby hn hb hnl hel hhl
        go_wp2_with fail
        refine HFM.out.mono ?_
        rintro e w5 ⟨rfl, hB5⟩
        have HT5 := Lib.hid (HT4.out.later hB5)
        have HO5 := Lib.hid (HO4.out.below hB5)
        have z0 := HT5.out.cell 0 rfl
        have z1 := HT5.out.cell 1 rfl
        have HB5 := Lib.hid (HB4.out.trans (hB5.mono HB4.out.size))
        have HFE := Lib.hid (landEncode NB mn mc EB me mec u w5 HO5.out (by omega))
        clear hB5 x0 x1 hw4 hg4 hix HFM HT4 HO4
        go_wp2_with fail
        refine HFE.out.mono ?_
        rintro e w6 hmade
        rw [HEB.out] at hmade
        obtain ⟨A, c, rfl, hrd, hnc, hcm, -, -, hB6⟩ := made_slice hmade (u8_all HBY.out)
        rw [HLN.out] at hrd hnc ⊢
        have HB6 := Lib.hid (HB5.out.trans (hB6.mono HB5.out.size))
        have HT6 := Lib.hid (HT5.out.later hB6)
        have HO6 := Lib.hid (HO5.out.below hB6)
        have HR6 := Lib.hid hrd
        have FD := landDecode A n c b w6 hnc hcm hlen hrd
        unfold GotDec decT decE at FD
        rw [HDC.out] at FD
        simp only at FD
        rw [HNL.out, HEL.out] at FD
        have HFD := Lib.hid FD
        clear hmade hB6 hrd FD HFE HT5 HO5 z0 z1
        go_wp2_with fail
        refine HFD.out.mono ?_
        rintro e w7 ⟨NC, cc, EC, cec, rfl, hok7, hB7⟩
        have hal := (Below.refl _ w7).alloc (Nat.le_refl _) (.cells #[.slice NC mn cc, .slice EC me cec] 25)
        have HU8 := Lib.hid (Blk.new w7 #[.slice NC mn cc, .slice EC me cec] 25 [.slice NC mn cc, .slice EC me cec] rfl)
        have HT8 := Lib.hid ((HT6.out.later hB7).later hal)
        have HO8 := Lib.hid ((HO6.out.below hB7).below hal)
        have HV8 := Lib.hid (hok7.below hal)
        have HR8 := Lib.hid ((HR6.out.below hB7).below hal)
        have hb67 := HB6.out.trans (hB7.mono HB6.out.size)
        have HB8 := Lib.hid (hb67.trans (hal.mono hb67.size))
        obtain ⟨w8, hw8⟩ : ∃ w8, w7.alloc (.cells #[.slice NC mn cc, .slice EC me cec] 25) = w8 := ⟨_, rfl⟩
        obtain ⟨g7, hg7⟩ : ∃ g7, w7.heap.size = g7 := ⟨_, rfl⟩
        rw [hw8] at HU8 HT8 HO8 HV8 HR8 HB8
        rw [hg7] at HU8
        have FH := landHead A n c b w8 hnc hcm hlen HR8.out
        unfold GotHead at FH
        rw [HHD.out] at FH
        simp only at FH
        rw [HNL.out] at FH
        have HFH := Lib.hid FH
        clear hal hok7 hB7 hb67 HT6 HO6 HR6 HFD FH
        go_wp2_with fail
        clear hw8 hg7 w7
        refine HFH.out.mono ?_
        rintro e w9 ⟨L, cl, rfl, -, hB9⟩
        have HT9 := Lib.hid (HT8.out.later hB9)
        have HU9 := Lib.hid (HU8.out.later hB9)
        have a0 := HT9.out.cell 0 rfl
        have a1 := HT9.out.cell 1 rfl
        have c0 := HU9.out.cell 0 rfl
        have c1 := HU9.out.cell 1 rfl
        have HFS := Lib.hid (sameSelf NB mn mc EB me mec NC mn cc EC me cec u w9 (HO8.out.below hB9) (HV8.out.below hB9))
        have HB9 := Lib.hid (HB8.out.trans (hB9.mono HB8.out.size))
        clear hB9 HT8 HU8 HO8 HV8 HFH
        go_wp2_with fail
        refine HFS.out.mono ?_
        rintro e w10 ⟨rfl, hB10⟩
        have HB10 := Lib.hid (HB9.out.trans (hB10.mono HB9.out.size))
        have t10 := HT9.out.later hB10
        have d0 := t10.cell 0 rfl
        have d1 := t10.cell 1 rfl
        clear a0 a1 c0 c1 t10 hB10
        go_wp2_with fail
        go_roundw
        case rel => exact ⟨1 + 1, by omega, by go_num, HB10.out⟩
        case measure => simp [intOf]
    obtain rfl : i = 2 := by omega
    go_wp2_with fail
    refine (awakeL wr).mono ?_
    rintro e w4 ⟨rfl, hB4⟩
    go_wp2
    go_ret
    have hb := HB3.out.trans (hBr.mono HB3.out.size)
    exact ⟨rfl, hb.trans (hB4.mono hb.size)⟩
end Go.Proofs.Ytgfifjcecpllbaa.Log
