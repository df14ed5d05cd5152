/-
  The walk of the law LogTells (stage 10). By an AI agent.
-/
import Derived.Test.YtgfifjcecpllbaaGLogEncodes44
namespace Go.Proofs.Ytgfifjcecpllbaa.Log
open Go.RowKit Go.Proofs.Ytgfifjcecpllbaa.Ints Go.Proofs.Ytgfifjcecpllbaa.Mem Go.Proofs.Ytgfifjcecpllbaa.SumMath Go.Proofs.Ytgfifjcecpllbaa.SumWalks Go.Proofs.Ytgfifjcecpllbaa.Trace Go.Proofs.Ytgfifjcecpllbaa.Record

set_option maxHeartbeats 8000000 in
set_option maxRecDepth 100000 in
theorem lawTells (start : Int) (N : Option Addr) (k kc : Nat) (ns : List Int) (wh at_ x : Nat) (w : World) (hs : 0 ≤ start ∧ start ≤ 18446744073709551615) (hN : Rd .u16 w N k ns) (hk : k ≤ maxLen) (hnn : ∀ z ∈ ns, 0 ≤ z) (hwh : wh ≤ 255) (hat : at_ ≤ 255) (hx : x ≤ 255) :
    Calls Try.prog 10 #[.int .u64 start, .slice N k kc, .int .u8 (wh : Int), .int .u8 (at_ : Int), .int .u8 (x : Int)] w fun e w' => e = .returned (.bool true) ∧ Below w.heap.size w w' := by
  have q63 : maxLen = 9223372036854775807 := rfl
  obtain ⟨i0, hi, hz0, hz1, hz2⟩ := info_parts info5s
  have HM := Lib.hid (lawMake start N k kc ns w hs hN hk)
  have hmay := make_may (start := start) ns hnn
  have hlen := make_enc (start := start) hnn
  have hsm := (make_small start ns).1
  obtain ⟨T, hT⟩ : ∃ T, makeM start ns = T := ⟨_, rfl⟩
  rw [hT] at HM hmay hlen hsm
  have HMAY := Lib.hid hmay
  have hhead := enc_head hmay
  have hhn := head_le_enc hmay
  have HBY := Lib.hid (enc_bytes T)
  have HTL := Lib.hid (fun ht kk j h1 h2 y hy i h3 h4 => tell_recs hmay ht (k := kk) (j := j) h1 h2 (y := y) hy (i := i) h3 h4)
  obtain ⟨F, hF⟩ : ∃ F : Nat → Nat, F = fun i => (headL T.names).length + ((T.events.take i).flatMap recR).length := ⟨_, rfl⟩
  have HF0 := Lib.hid (show F 0 = (headL T.names).length by rw [hF]; simp)
  have HFK := Lib.hid (show ∀ i, F i = (headL T.names).length + ((T.events.take i).flatMap recR).length from fun i => by rw [hF])
  have HFS := Lib.hid (show ∀ i, i < T.events.length → F (i + 1) = F i + (14 + (T.events.getD i noEv).ids.length) from fun i hi => by
    rw [hF]
    simp only
    rw [recs_next _ _ hi, List.length_append, rec_len]
    omega)
  have HFB := Lib.hid (show ∀ i, i ≤ T.events.length → F i ≤ 6000 from fun i hi => by
    have h1 := head_len ((mayT_iff T).1 hmay).1
    have h2 := recs_len (es := T.events.take i) (fun e he => may_len hmay e (List.mem_of_mem_take he))
    have h3 : (T.events.take i).length ≤ 60 := by rw [List.length_take]; omega
    rw [hF]
    simp only
    omega)
  obtain ⟨b, hb⟩ : ∃ b, encL T = b := ⟨_, rfl⟩
  rw [hb] at hhead hhn hlen HBY HTL
  obtain ⟨n, hn⟩ : ∃ n, b.length = n := ⟨_, rfl⟩
  obtain ⟨hd, hhd⟩ : ∃ hd, (headL T.names).length = hd := ⟨_, rfl⟩
  rw [hn] at hlen hhn HTL
  rw [hhd] at hhead hhn HF0
  have HHD := Lib.hid hhead
  have HLN := Lib.hid hn
  have HEB := Lib.hid hb
  have hn1 : (n : Int) ≤ 6000 := by omega
  clear hT hmay hhead hb hn hhd hN hF
  go_enter Try.func10, Try.ntmps10
  go_wp2_with fail
  refine HM.out.mono ?_
  rintro e w1 ⟨NA, nn, nc, EA, ne, ec, rfl, hok, hB1⟩
  have hne : ne ≤ 60 := by have := hok.elen; omega
  have hal := (Below.refl _ w1).alloc (Nat.le_refl _) (.cells #[.slice NA nn nc, .slice EA ne ec] 25)
  have ht2 := Blk.new w1 #[.slice NA nn nc, .slice EA ne ec] 25 [.slice NA nn nc, .slice EA ne ec] rfl
  have hok2 := TrOk.below hok hal
  have HB2 := Lib.hid (hB1.trans (hal.mono hB1.size))
  obtain ⟨w2, hw2⟩ : ∃ w2, w1.alloc (.cells #[.slice NA nn nc, .slice EA ne ec] 25) = w2 := ⟨_, rfl⟩
  obtain ⟨g1, hg1⟩ : ∃ g1, w1.heap.size = g1 := ⟨_, rfl⟩
  rw [hw2] at ht2 hok2 HB2
  rw [hg1] at ht2
  have HFE := Lib.hid (landEncode NA nn nc EA ne ec T w2 hok2 (by omega))
  have HT2 := Lib.hid ht2
  have HO2 := Lib.hid hok2
  have HW2 := Lib.hid hw2
  have HG1 := Lib.hid hg1
  clear hok hB1 hal ht2 hok2 hw2 hg1 HM
  go_wp2_with fail
  rw [HW2.out, HG1.out]
  refine HFE.out.mono ?_
  rintro e w3 hmade
  rw [HEB.out] at hmade
  obtain ⟨A, c, rfl, hrd, hnc, hcm, -, -, hB3⟩ := made_slice hmade (u8_all HBY.out)
  rw [HLN.out] at hrd hnc ⊢
  have HB3 := Lib.hid (HB2.out.trans (hB3.mono HB2.out.size))
  have HT3 := Lib.hid (HT2.out.later hB3)
  have HO3 := Lib.hid (HO2.out.below hB3)
  have HR3 := Lib.hid hrd
  have FH := landHead A n c b w3 hnc hcm (by omega) hrd
  unfold GotHead at FH
  rw [HHD.out] at FH
  simp only at FH
  obtain ⟨tn, htn⟩ : ∃ tn, T.names.length = tn := ⟨_, rfl⟩
  rw [htn] at FH
  have HFH := Lib.hid FH
  clear hmade hB3 hrd FH HT2 HO2 HFE htn
  go_wp2_with fail
  refine HFH.out.mono ?_
  rintro e w4 ⟨L, cl, rfl, -, hB4⟩
  have HB4 := Lib.hid (HB3.out.trans (hB4.mono HB3.out.size))
  have HT4 := Lib.hid (HT3.out.later hB4)
  have HO4 := Lib.hid (HO3.out.below hB4)
  have HR4 := Lib.hid (HR3.out.below hB4)
  have HTM := Lib.hid (tr_times HO4.out)
  have hTl := HO4.out.elen
  have y1 := HT4.out.cell 1 rfl
  clear hB4 HT3 HO3 HR3 HFH
  by_cases hne0 : ne = 0
  · subst hne0
    clear hTl
    go_wp2_with fail
    refine (awakeL w4).mono ?_
    rintro e w5 ⟨rfl, hB5⟩
    go_wp2
    go_ret
    exact ⟨rfl, HB4.out.trans (hB5.mono HB4.out.size)⟩
  have hne0' : ((ne : Int) == 0) = false := by simp; omega
  by_cases hx0 : x = 0
  · have hx0' : ((x : Int) == 0) = true := by simp; omega
    clear hTl hx0
    go_wp2_with fail
    refine (awakeL w4).mono ?_
    rintro e w5 ⟨rfl, hB5⟩
    go_wp2
    go_ret
    exact ⟨rfl, HB4.out.trans (hB5.mono HB4.out.size)⟩
  have hx0' : ((x : Int) == 0) = false := by simp; omega
  obtain ⟨kk, hk1, hk2⟩ : ∃ kk : Nat, (wh : Int) % (ne : Int) = (kk : Int) ∧ kk < ne := ⟨wh % ne, by rw [Int.natCast_emod], Nat.mod_lt _ (by omega)⟩
  have hkc : (kk : Int) ≤ 60 := by omega
  have hsl := fun W => slice_upto (P := Try.prog) 23 typeEvents 2 sizeElemEvents EA ne ec kk (by have := HO4.out.ecap; omega) W
  go_wp2_with fail
  clear y1 hsl
  go_loopw [14, 63] (fun fv iv wr => ∃ i : Nat, i ≤ kk ∧ fv = .int .i64 (F i : Nat) ∧ iv = .int .i64 i ∧ Below w4.heap.size w4 wr) (fun _ iv _ => kk - (intOf iv).toNat)
  case atStart => exact ⟨0, Nat.zero_le _, by rw [HF0.out], rfl, Below.refl _ _⟩
  case round =>
    obtain ⟨i, hi', rfl, rfl, hBr⟩ := hrel
    have hfb := HFB.out i (by omega)
    obtain ⟨fi, hfi⟩ : ∃ fi, F i = fi := ⟨_, rfl⟩
    by_cases hik : i < kk
    · obtain ⟨b', off, K, ck, rfl, c0, c1, hokk⟩ := (HO4.out.below hBr).evs.kids (k := i) (by rw [hTl]; omega)
      have hmi := ids_count (may_ids HMAY.out (k := i) (by rw [hTl]; omega)).2
      have HFN := Lib.hid (HFS.out i (by rw [hTl]; omega))
      rw [hfi] at hfb HFN ⊢
      obtain ⟨ev, hev⟩ : ∃ ev, T.events.getD i noEv = ev := ⟨_, rfl⟩
      rw [hev] at c0 c1 hokk hmi HFN
      obtain ⟨m3, hm3⟩ : ∃ m3, ev.ids.length = m3 := ⟨_, rfl⟩
      rw [hm3] at c1 hmi HFN
      have hm3b : (m3 : Int) ≤ 64 := by omega
      have hx := Blk.new wr #[.int .u64 ev.time, .slice K m3 ck] 39 [.int .u64 ev.time, .slice K m3 ck] rfl
      have x1 := hx.cell 1 rfl
      have HAL := Lib.hid (hBr.alloc hBr.size (.cells #[.int .u64 ev.time, .slice K m3 ck] 39))
      clear hev hm3 hokk hx hTl hfi hmi
      go_wp2_with fail
      go_roundw
      case rel => exact ⟨i + 1, by omega, by rw [HFN.out]; go_num, by go_num, HAL.out⟩
      case measure => simp [intOf]; omega
    have hik' : ¬ ((i : Int) < (kk : Int)) := by omega
    obtain rfl : i = kk := by omega
    have hEA := (HO4.out.below hBr).evs.kids (k := i) (by rw [hTl]; omega)
    have hmi := ids_count (may_ids HMAY.out (k := i) (by rw [hTl]; omega)).2
    have HFK1 := Lib.hid (HFK.out i)
    rw [hfi] at hfb HFK1 ⊢
    obtain ⟨b', off, K, ck, hEq, c0, c1, hokk⟩ := hEA
    obtain ⟨m3, hm3⟩ : ∃ m3, (T.events.getD i noEv).ids.length = m3 := ⟨_, rfl⟩
    rw [hm3] at c1 hmi
    have hm3b : (m3 : Int) ≤ 64 := by omega
    obtain ⟨j, hj1, hj2⟩ : ∃ j : Nat, (at_ : Int) % (12 + (m3 : Int)) = (j : Int) ∧ j < 12 + m3 := ⟨at_ % (12 + m3), by rw [show (12 : Int) + (m3 : Int) = ((12 + m3 : Nat) : Int) by omega, Int.natCast_emod], Nat.mod_lt _ (by omega)⟩
    have hj0 : ((12 : Int) + (m3 : Int) == 0) = false := by simp; omega
    obtain ⟨idx, hidx⟩ : ∃ idx, fi + 2 + j = idx := ⟨_, rfl⟩
    have hidx' : (fi : Int) + 2 + (j : Int) = (idx : Int) := by omega
    obtain ⟨hzb, hzz⟩ := byte_bd HBY.out idx
    obtain ⟨z, hz⟩ : ∃ z, b[idx]?.getD 0 = z := ⟨_, rfl⟩
    rw [hz] at hzz
    have hzb2 : 0 ≤ z ∧ z ≤ 255 := by omega
    obtain ⟨hxy, hxn⟩ := xor_u8 z (x : Int) hzb2 ⟨by omega, by omega⟩
    have hT2 := HTL.out HTM.out i j (by rw [hTl]; omega) (by rw [hm3]; exact hj2) (bits .xor .u8 z (x : Int)) hxy idx (by rw [← hidx, HFK1.out]) (by rw [hz]; intro e; exact hx0 (by have := hxn.1 e; omega))
    obtain ⟨hidn, hrec⟩ := hT2
    have HREC := Lib.hid hrec
    have HZI := Lib.hid hz
    have HXY := Lib.hid hxy
    have hidn' : ¬ ((idx : Int) ≥ (n : Int)) := by omega
    have hidn2 : (idx : Int) < (n : Int) := by omega
    obtain ⟨z0, z1⟩ := hzb2
    subst hEq
    have y1 := (HT4.out.later hBr).cell 1 rfl
    have HCE := Lib.hid c1
    have HYE := Lib.hid y1
    have HBr := Lib.hid hBr
    clear hfi hmi hokk hm3 hz hzz hxy hxn hrec hidx HTL HFK HFS HFB HF0 c0 hBr y1 c1
    go_wp2_with (at_builtin; refine wpList_append_ints rfl _ _ 29 rfl .u8 wr.heap.size 5 i0 1 Try.underlying29 hi hz0 hz1 hz2 _ _ _ rfl (own_lit wr wr.heap.size 5 .u8 [] 0 rfl (by decide) (Nat.le_refl _)) _ _ _ b rfl ((HR4.out.below HBr.out).alloc _) (by omega) (by omega) (le_alloc (Nat.le_refl _)) ?_; intro v5 w5 hown1 hgr1; have hB5 := ((Below.refl wr.heap.size wr).alloc (Nat.le_refl _) (.cells #[] 5)).grown hgr1 (le_alloc (Nat.le_refl _)) (fun b hb => by injection hb with hb; exact Nat.le_of_eq hb); have hown2 := row_more (m := n) (ys := b) (by omega) (List.nil_append b) hown1; obtain ⟨g, c5, rfl, hg, hgl, hc5, hm5⟩ := own_form hown2 (by omega); have hcell := own_cell hown2 hidn; have hfz := hown2.frozenAt idx; rw [HZI.out] at hcell; have y5 := below_cell hB5 HYE.out; have c15 := below_cell hB5 HCE.out; have HO5 := Lib.hid hown2; have HB5 := Lib.hid hB5; clear hown1 hgr1 hB5 hown2)
    have HB6 := Lib.hid (HB5.out.setCell (p := ⟨g, idx, none⟩) hg (.int .u8 (bits .xor .u8 z (x : Int))))
    have hb46 := HBr.out.trans (HB6.out.mono HBr.out.size)
    have HT6 := Lib.hid (HT4.out.later hb46)
    have HO6 := Lib.hid (HO4.out.below hb46)
    have HB46 := Lib.hid (HB4.out.trans (hb46.mono HB4.out.size))
    have hrd := Rd.own (own_set HO5.out idx (bits .xor .u8 z (x : Int))) (fun y hy => by
      rcases List.mem_or_eq_of_mem_set hy with h1 | rfl
      · exact u8_wf (HBY.out y h1)
      · exact u8_wf HXY.out)
    obtain ⟨W6, hW6⟩ : ∃ W6, w5.setCell ⟨g, idx, none⟩ (.int .u8 (bits .xor .u8 z (x : Int))) = W6 := ⟨_, rfl⟩
    rw [hW6] at HB6 HT6 HO6 HB46 hrd ⊢
    have FD := landDecode (some ⟨g, 0, none⟩) n c5 _ W6 hc5 hm5 (by omega) hrd
    unfold GotDec decT decE at FD
    rw [HREC.out] at FD
    simp only at FD
    obtain ⟨un, hun⟩ : ∃ un, T.names.length = un := ⟨_, rfl⟩
    have hti : (T.events.take i).length = i := by rw [List.length_take]; omega
    rw [hun, hti, if_neg (by decide)] at FD
    have HFD := Lib.hid FD
    have HCUT : cutT T (i : Int) = ⟨T.names, T.events.take i⟩ := by
      unfold cutT
      rw [if_pos HMAY.out, Int.toNat_natCast]
    obtain ⟨U, hU⟩ : ∃ U : Tr, (⟨T.names, T.events.take i⟩ : Tr) = U := ⟨_, rfl⟩
    rw [hU] at HFD HCUT
    clear hb46 hW6 hrd FD hun hti hU HT4 HO4 HR4 HB4 HB5 HB6 HBr hcell hfz y5 c15 HO5 HREC hTl
    refine HFD.out.mono ?_
    rintro e w7 ⟨NB, mc, EB, fc, rfl, hok7, hB7⟩
    have hal := (Below.refl _ w7).alloc (Nat.le_refl _) (.cells #[.slice NB un mc, .slice EB i fc] 25)
    have HU8 := Lib.hid (Blk.new w7 #[.slice NB un mc, .slice EB i fc] 25 [.slice NB un mc, .slice EB i fc] rfl)
    have HT8 := Lib.hid ((HT6.out.later hB7).later hal)
    have HO8 := Lib.hid ((HO6.out.below hB7).below hal)
    have HV8 := Lib.hid (hok7.below hal)
    have hB47 := HB46.out.trans (hB7.mono HB46.out.size)
    have HB8 := Lib.hid (hB47.trans (hal.mono hB47.size))
    obtain ⟨w8, hw8⟩ : ∃ w8, w7.alloc (.cells #[.slice NB un mc, .slice EB i fc] 25) = w8 := ⟨_, rfl⟩
    obtain ⟨g5, hg5⟩ : ∃ g5, w7.heap.size = g5 := ⟨_, rfl⟩
    rw [hw8] at HU8 HT8 HO8 HV8 HB8
    rw [hg5] at HU8
    clear hal hok7 hB7 hB47 HT6 HO6 HFD HB46
    go_wp2_with fail
    clear hw8 hg5 w7
    obtain ⟨V, hV⟩ : ∃ V, V = w8.drew := ⟨_, rfl⟩
    have HBV := Lib.hid (show Below w8.heap.size w8 V by rw [hV]; exact (Below.refl _ _).drew)
    have HT7 := Lib.hid (HT8.out.later HBV.out)
    have HU7 := Lib.hid (HU8.out.later HBV.out)
    have HV7 := Lib.hid (HV8.out.below HBV.out)
    have HFC := Lib.hid (HCUT ▸ refCut NA nn nc (some ⟨b', off, none⟩) ne ec T (i : Int) V (HO8.out.below HBV.out) ⟨by omega, by omega⟩)
    have HB7 := Lib.hid (HB8.out.trans (HBV.out.mono HB8.out.size))
    clear HBV
    refine wp_region_held_drew (S := fun W => W.cell? ⟨g1, 0, none⟩ = some (.slice NA nn nc) ∧ W.cell? ⟨g1, 1, none⟩ = some (.slice (some ⟨b', off, none⟩) ne ec) ∧ W.cell? ⟨g5, 0, none⟩ = some (.slice NB un mc) ∧ W.cell? ⟨g5, 1, none⟩ = some (.slice EB i fc)) (by kernel_rfl) (by rw [← hV]; exact ⟨HT7.out.cell 0 rfl, HT7.out.cell 1 rfl, HU7.out.cell 0 rfl, HU7.out.cell 1 rfl⟩) (fun hHeld => ?_)
    rw [← hV] at hHeld ⊢
    clear hV
    refine wpAnyH_take (i := 0) (oi := ?tko1) (v := ?tkv1) ?tkh1 (by kernel_rfl) (by kernel_rfl) (by kernel_rfl) ?tkq1 ?tky1 hHeld ?tkr1
    case tkh1 => (simp only [List.getElem?_toArray, List.getElem?_cons_zero]; rfl)
    case tkq1 => exact fun _ _ _ h => h
    case tky1 => exact Or.inl ⟨by rfl, by intro wSw hSw; (try dsimp only at hSw); go_simp; try with_reducible rfl⟩
    try simp only [Act.put, List.setIfInBounds_toArray, List.set_cons_zero, List.set_cons_succ]
    refine wpAnyH_take (i := 1) (oi := ?tko2) (v := ?tkv2) ?tkh2 (by kernel_rfl) (by kernel_rfl) (by kernel_rfl) ?tkq2 ?tky2 hHeld ?tkr2
    case tkh2 => (simp only [List.getElem?_toArray, List.getElem?_cons_succ, List.getElem?_cons_zero]; rfl)
    case tkq2 => exact fun _ _ _ h => h
    case tky2 => exact Or.inl ⟨by rfl, by intro wSw hSw; (try dsimp only at hSw); go_simp; try with_reducible rfl⟩
    try simp only [Act.put, List.setIfInBounds_toArray, List.set_cons_zero, List.set_cons_succ]
    refine wpAnyH_take (i := 2) (oi := ?tko3) (v := ?tkv3) ?tkh3 (by kernel_rfl) (by kernel_rfl) (by kernel_rfl) ?tkq3 ?tky3 hHeld ?tkr3
    case tkh3 => (simp only [List.getElem?_toArray, List.getElem?_cons_succ, List.getElem?_cons_zero]; rfl)
    case tkq3 => exact fun _ _ _ h => h
    case tky3 => exact Or.inl ⟨by rfl, by intro wSw hSw; (try dsimp only at hSw); go_simp; try with_reducible rfl⟩
    try simp only [Act.put, List.setIfInBounds_toArray, List.set_cons_zero, List.set_cons_succ]
    refine wpAnyH_take (i := 3) (oi := ?tko4) (v := ?tkv4) ?tkh4 (by kernel_rfl) (by kernel_rfl) (by kernel_rfl) ?tkq4 ?tky4 hHeld ?tkr4
    case tkh4 => (simp only [List.getElem?_toArray, List.getElem?_cons_succ, List.getElem?_cons_zero]; rfl)
    case tkq4 => exact fun _ _ _ h => h
    case tky4 => exact Or.inl ⟨by rfl, by intro wSw hSw; (try dsimp only at hSw); go_simp; try with_reducible rfl⟩
    try simp only [Act.put, List.setIfInBounds_toArray, List.set_cons_zero, List.set_cons_succ]
    refine wpAnyH_take (i := 4) (oi := ?tko5) (v := ?tkv5) ?tkh5 (by kernel_rfl) (by kernel_rfl) (by kernel_rfl) ?tkq5 ?tky5 hHeld ?tkr5
    case tkh5 => (simp only [List.getElem?_toArray, List.getElem?_cons_succ, List.getElem?_cons_zero]; rfl)
    case tkq5 => exact fun _ _ _ h => h
    case tky5 => exact Or.inl ⟨by rfl, by intro wSw hSw; (try dsimp only at hSw); go_simp; try with_reducible rfl⟩
    try simp only [Act.put, List.setIfInBounds_toArray, List.set_cons_zero, List.set_cons_succ]
    refine wpAnyH_take (i := 5) (oi := ?tko6) (v := ?tkv6) ?tkh6 (by kernel_rfl) (by kernel_rfl) (by kernel_rfl) ?tkq6 ?tky6 hHeld ?tkr6
    case tkh6 => (simp only [List.getElem?_toArray, List.getElem?_cons_succ, List.getElem?_cons_zero]; rfl)
    case tkq6 => exact fun _ _ _ h => h
    case tky6 => exact Or.inl ⟨by rfl, by intro wSw hSw; (try dsimp only at hSw); go_simp; try with_reducible rfl⟩
    try simp only [Act.put, List.setIfInBounds_toArray, List.set_cons_zero, List.set_cons_succ]
    refine wpAnyH_take (i := 6) (oi := ?tko7) (v := ?tkv7) ?tkh7 (by kernel_rfl) (by kernel_rfl) (by kernel_rfl) ?tkq7 ?tky7 hHeld ?tkr7
    case tkh7 => (simp only [List.getElem?_toArray, List.getElem?_cons_succ, List.getElem?_cons_zero]; rfl)
    case tkq7 => exact fun _ _ _ h => h
    case tky7 => exact Or.inl ⟨by rfl, by intro wSw hSw; (try dsimp only at hSw); go_simp; try with_reducible rfl⟩
    try simp only [Act.put, List.setIfInBounds_toArray, List.set_cons_zero, List.set_cons_succ]
    refine wpAnyH_take (i := 7) (oi := ?tko8) (v := ?tkv8) ?tkh8 (by kernel_rfl) (by kernel_rfl) (by kernel_rfl) ?tkq8 ?tky8 hHeld ?tkr8
    case tkh8 => (simp only [List.getElem?_toArray, List.getElem?_cons_succ, List.getElem?_cons_zero]; rfl)
    case tkq8 => exact fun _ _ _ h => h
    case tky8 => exact Or.inl ⟨by rfl, by intro wSw hSw; (try dsimp only at hSw); go_simp; try with_reducible rfl⟩
    try simp only [Act.put, List.setIfInBounds_toArray, List.set_cons_zero, List.set_cons_succ]
    refine wpAnyH_take (i := 8) (oi := ?tko9) (v := ?tkv9) ?tkh9 (by kernel_rfl) (by kernel_rfl) (by kernel_rfl) ?tkq9 ?tky9 hHeld ?tkr9
    case tkh9 => (simp only [List.getElem?_toArray, List.getElem?_cons_succ, List.getElem?_cons_zero]; rfl)
    case tkq9 => exact fun _ _ _ h => h
    case tky9 => exact Or.inl ⟨by rfl, by intro wSw hSw; (try dsimp only at hSw); go_simp; try with_reducible rfl⟩
    try simp only [Act.put, List.setIfInBounds_toArray, List.set_cons_zero, List.set_cons_succ]
    refine wpAnyH_take (i := 9) (oi := ?tko10) (v := ?tkv10) ?tkh10 (by kernel_rfl) (by kernel_rfl) (by kernel_rfl) ?tkq10 ?tky10 hHeld ?tkr10
    case tkh10 => (simp only [List.getElem?_toArray, List.getElem?_cons_succ, List.getElem?_cons_zero]; rfl)
    case tkq10 => exact fun _ _ _ h => h
    case tky10 => exact Or.inl ⟨by rfl, by intro wSw hSw; (try dsimp only at hSw); go_simp; try with_reducible rfl⟩
    try simp only [Act.put, List.setIfInBounds_toArray, List.set_cons_zero, List.set_cons_succ]
    refine wpAnyH_take (i := 10) (oi := ?tko11) (v := ?tkv11) ?tkh11 (by kernel_rfl) (by kernel_rfl) (by kernel_rfl) ?tkq11 ?tky11 hHeld ?tkr11
    case tkh11 => (simp only [List.getElem?_toArray, List.getElem?_cons_succ, List.getElem?_cons_zero]; rfl)
    case tkq11 => exact fun _ _ _ h => h
    case tky11 => exact Or.inl ⟨by rfl, by intro wSw hSw; (try dsimp only at hSw); go_simp; try with_reducible rfl⟩
    try simp only [Act.put, List.setIfInBounds_toArray, List.set_cons_zero, List.set_cons_succ]
    refine wpAnyH_ready (rs := [11]) (by kernel_rfl) (by simp) ?_
    refine AllReadyH.cons (o := ?tko12) ?tkh12 (fun Kt12 hKt12 => ?_) AllReadyH.nil
    case tkh12 => (simp only [List.getElem?_toArray, List.getElem?_cons_succ, List.getElem?_cons_zero]; rfl)
    go_simp
    (go_at_call 22; refine HFC.out.mono ?_; rintro e v1 ⟨NC, cn, cc, EC, cne, cec, rfl, hk1', hd1⟩; have t1 := HT7.out.later hd1; have u1 := HU7.out.later hd1)
    refine hKt12.out _ _ ?_ (fun hHt12 => ?_)
    · (exact ⟨t1.cell 0 rfl, t1.cell 1 rfl, u1.cell 0 rfl, u1.cell 1 rfl⟩)
    clear hKt12 Kt12 hHeld
    have hHeld := hHt12
    clear hHt12
    try simp only [Act.put, List.setIfInBounds_toArray, List.set_cons_zero, List.set_cons_succ]
    refine wpAnyH_ready (rs := [12]) (by kernel_rfl) (by simp) ?_
    refine AllReadyH.cons (o := ?tko13) ?tkh13 (fun Kt13 hKt13 => ?_) AllReadyH.nil
    case tkh13 => (simp only [List.getElem?_toArray, List.getElem?_cons_succ, List.getElem?_cons_zero]; rfl)
    go_simp
    (go_at_call 21; refine (sameSelf NB un mc EB i fc NC cn cc EC cne cec U v1 (HV7.out.below hd1) hk1').mono ?_; rintro e v2 ⟨rfl, hd2⟩; have t2 := t1.later hd2; have u2 := u1.later hd2)
    refine hKt13.out _ _ ?_ (fun hHt13 => ?_)
    · (exact ⟨t2.cell 0 rfl, t2.cell 1 rfl, u2.cell 0 rfl, u2.cell 1 rfl⟩)
    clear hKt13 Kt13 hHeld
    have hHeld := hHt13
    clear hHt13
    try simp only [Act.put, List.setIfInBounds_toArray, List.set_cons_zero, List.set_cons_succ]
    refine wpAnyH_take (i := 13) (oi := ?tko14) (v := ?tkv14) ?tkh14 (by kernel_rfl) (by kernel_rfl) (by kernel_rfl) ?tkq14 ?tky14 hHeld ?tkr14
    case tkh14 => (simp only [List.getElem?_toArray, List.getElem?_cons_succ, List.getElem?_cons_zero]; rfl)
    case tkq14 => exact fun _ _ _ h => h
    case tky14 => exact Or.inl ⟨by rfl, by intro wSw hSw; (try dsimp only at hSw); go_simp; try with_reducible rfl⟩
    try simp only [Act.put, List.setIfInBounds_toArray, List.set_cons_zero, List.set_cons_succ]
    refine wpAnyH_take (i := 14) (oi := ?tko15) (v := ?tkv15) ?tkh15 (by kernel_rfl) (by kernel_rfl) (by kernel_rfl) ?tkq15 ?tky15 hHeld ?tkr15
    case tkh15 => (simp only [List.getElem?_toArray, List.getElem?_cons_succ, List.getElem?_cons_zero]; rfl)
    case tkq15 => exact fun _ _ _ h => h
    case tky15 => exact Or.inl ⟨by rfl, by intro wSw hSw; (try dsimp only at hSw); go_simp; try with_reducible rfl⟩
    try simp only [Act.put, List.setIfInBounds_toArray, List.set_cons_zero, List.set_cons_succ]
    refine wpAnyH_ready (rs := [15]) (by kernel_rfl) (by simp) ?_
    refine AllReadyH.cons (o := ?tko16) ?tkh16 (fun Kt16 hKt16 => ?_) AllReadyH.nil
    case tkh16 => (simp only [List.getElem?_toArray, List.getElem?_cons_succ, List.getElem?_cons_zero]; rfl)
    go_simp
    (go_at_call 14; refine (awakeL v2).mono ?_; rintro e v3 ⟨rfl, hd3⟩; have t3 := t2.later hd3; have u3 := u2.later hd3)
    refine hKt16.out _ _ ?_ (fun hHt16 => ?_)
    · (exact ⟨t3.cell 0 rfl, t3.cell 1 rfl, u3.cell 0 rfl, u3.cell 1 rfl⟩)
    clear hKt16 Kt16 hHeld
    have hHeld := hHt16
    clear hHt16
    try simp only [Act.put, List.setIfInBounds_toArray, List.set_cons_zero, List.set_cons_succ]
    refine wpAnyH_take (i := 16) (oi := ?tko17) (v := ?tkv17) ?tkh17 (by kernel_rfl) (by kernel_rfl) (by kernel_rfl) ?tkq17 ?tky17 hHeld ?tkr17
    case tkh17 => (simp only [List.getElem?_toArray, List.getElem?_cons_succ, List.getElem?_cons_zero]; rfl)
    case tkq17 => exact fun _ _ _ h => h
    case tky17 => exact Or.inl ⟨by rfl, by intro wSw hSw; (try dsimp only at hSw); go_simp; try with_reducible rfl⟩
    try simp only [Act.put, List.setIfInBounds_toArray, List.set_cons_zero, List.set_cons_succ]
    refine wpAnyH_take (i := 17) (oi := ?tko18) (v := ?tkv18) ?tkh18 (by kernel_rfl) (by kernel_rfl) (by kernel_rfl) ?tkq18 ?tky18 hHeld ?tkr18
    case tkh18 => (simp only [List.getElem?_toArray, List.getElem?_cons_succ, List.getElem?_cons_zero]; rfl)
    case tkq18 => exact fun _ _ _ h => h
    case tky18 => exact Or.inl ⟨by rfl, by intro wSw hSw; (try dsimp only at hSw); go_simp; try with_reducible rfl⟩
    try simp only [Act.put, List.setIfInBounds_toArray, List.set_cons_zero, List.set_cons_succ]
    refine wpAnyH_done (by kernel_rfl) ?_ _
    clear hHeld
    go_wp2
    go_ret
    have hd12 := HB7.out.trans (hd1.mono HB7.out.size)
    have hd13 := hd12.trans (hd2.mono hd12.size)
    exact ⟨rfl, hd13.trans (hd3.mono hd13.size)⟩
end Go.Proofs.Ytgfifjcecpllbaa.Log
