/-
  The law ScanFault (stage 12), from contracts of the landed Head and Record. Written by wip/tools/genfault12.py. By an AI agent.
-/
import Derived.Test.YtbbjoffknoaoiaaGScanAny35
import Derived.Test.YtbbjoffknoaoiaaGScanAny43
import Derived.Test.YtbbjoffknoaoiaaGScanAny30
import Derived.Test.YtbbjoffknoaoiaaGScanAny34
namespace Go.Proofs.Ytbbjoffknoaoiaa.Scan
open Go.RowKit Go.Proofs.Ytbbjoffknoaoiaa.Ints Go.Proofs.Ytbbjoffknoaoiaa.Mem Go.Proofs.Ytbbjoffknoaoiaa.SumMath Go.Proofs.Ytbbjoffknoaoiaa.SumWalks Go.Proofs.Ytbbjoffknoaoiaa.Trace Go.Proofs.Ytbbjoffknoaoiaa.Record Go.Proofs.Ytbbjoffknoaoiaa.Log Go.Proofs.Ytbbjoffknoaoiaa.Src

theorem headF_whole {t : Tr} (h : mayT t = true) : headF (encL t) (encL t).length = (t.names, (headL t.names).length, 0) := by
  unfold headF
  rw [if_neg (Nat.lt_irrefl _), List.take_of_length_le (Nat.le_refl _)]
  exact enc_head h
theorem headF_cut {t : Tr} (h : mayT t = true) {k : Nat} (hk : k < (encL t).length) : headF (encL t) k = if (headL t.names).length ≤ k then (t.names, (headL t.names).length, 0) else ([], 0, 10) := by
  unfold headF
  rw [if_pos hk]
  exact head_fault h hk
theorem fault_none (n : Nat) : faultP n (-1) = n := by unfold faultP; rw [if_pos (Or.inl (by decide))]
theorem fault_at {n k : Nat} (h : k < n) : faultP n (k : Int) = k := by unfold faultP; rw [if_neg (by omega)]; omega

set_option maxHeartbeats 16000000 in
set_option maxRecDepth 100000 in
theorem lawFaultS {M : Nat} (hM : 6000 ≤ M) (LR : RecC M) (LH : HeadC M) (start : Int) (N : Option Addr) (k kc : Nat) (ns : List Int) (B : Option Addr) (m bd : Nat) (sc : List Int) (fa : Nat) (w : World)
    (hs : 0 ≤ start ∧ start ≤ 18446744073709551615) (hN : Rd .u16 w N k ns) (hk : k ≤ maxLen) (hnn : ∀ z ∈ ns, 0 ≤ z) (hsc : Rd .i64 w B m sc) (hm : m * 8 ≤ 140737488351232) (hfa : fa ≤ 65535) (hAW : 1000 ≤ M) :
    Calls Try.prog 7 #[.int .u64 start, .slice N k kc, .slice B m bd, .int .u16 (fa : Int)] w fun e w' => e = .returned (.bool true) ∧ Below w.heap.size w w' := by
  have q63 : maxLen = 9223372036854775807 := rfl
  have HMK := Lib.hid (lawMake start N k kc ns w hs hN hk)
  have hmay := make_may (start := start) ns hnn
  obtain ⟨e1, e2, e3⟩ := enc_small (start := start) hnn
  have e4 := (make_small start ns).1
  obtain ⟨T, hT⟩ : ∃ T, makeM start ns = T := ⟨_, rfl⟩
  rw [hT] at HMK hmay e1 e2 e3 e4
  have HMAY := Lib.hid hmay
  have HWH := Lib.hid (headF_whole hmay)
  have HCU := Lib.hid (fun q h => headF_cut hmay (k := q) h)
  have HSW := Lib.hid (fun ht i hi => scan_whole hmay ht (i := i) hi)
  have HSK := Lib.hid (fun ht i q hi hq => scan_cut hmay ht (i := i) (k := q) hi hq)
  have HPL := Lib.hid (fun ht i hi => (place_rec hmay ht (i := i) hi).2.2.2)
  have hp0 := place_zero T
  obtain ⟨b, hb⟩ : ∃ b, encL T = b := ⟨_, rfl⟩
  rw [hb] at HWH HCU HSW HSK HPL e1 e2 e3
  have HBY := Lib.hid e3
  obtain ⟨n, hn⟩ : ∃ n, b.length = n := ⟨_, rfl⟩
  rw [hn] at HWH HCU HSW HSK HPL e1 e2
  obtain ⟨hd, hhd⟩ : ∃ hd, (headL T.names).length = hd := ⟨_, rfl⟩
  rw [hhd] at HWH HCU hp0
  have HLN := Lib.hid hn
  have HEB := Lib.hid hb
  obtain ⟨q, hq1, hq2⟩ : ∃ q : Nat, (fa : Int).tmod (n : Int) = (q : Int) ∧ q < n := ⟨fa % n, by rw [Int.tmod_eq_emod_of_nonneg (by omega), Int.natCast_emod], Nat.mod_lt _ (by omega)⟩
  have hqe : (fa : Int) % (n : Int) = (q : Int) := by rw [← hq1, Int.tmod_eq_emod_of_nonneg (by omega)]
  have hn0 : ¬ ((n : Int) = 0) := by omega
  have hn1 : ((n : Int) == 0) = false := by simp; omega
  have hfc : IntKind.i64.wrap (fa : Int) = (fa : Int) := IntWalk.i64_in _ (by omega)
  have hqc : IntKind.i64.wrap (q : Int) = (q : Int) := IntWalk.i64_in _ (by omega)
  have HCQ := Lib.hid (HCU.out q hq2)
  have HSC := Lib.hid hsc
  have HLH := Lib.hid (fun S g sc f N W hs' hN' => LH S g b sc f N W hs' hN' (by omega))
  have HLR := Lib.hid (fun S g sc f N p props W hs' hN' hp' => LR S g b sc f N p props W hs' hN' hp' (by omega))
  unfold GotHeadS at HLH
  unfold GotRecS at HLR
  have HA := Lib.hid (fun W => lawAwake hAW LR LH W)
  have hn6 : n ≤ 6000 := by omega
  clear LR LH hT hmay hb hn e3 hN hsc HCU hhd hAW hM
  go_enter Try.func7, Try.ntmps7
  go_wp2_with fail
  refine HMK.out.mono ?_
  rintro e w1 ⟨NA, nn, nc, EA, ne, ec, rfl, hok, hB1⟩
  have hne : ne ≤ 60 := by have := hok.elen; omega
  have HTM := Lib.hid (tr_times hok)
  have hnn2 : T.names.length = nn := hok.nlen
  have hne2 : T.events.length = ne := hok.elen
  have hal := (Below.refl _ w1).alloc (Nat.le_refl _) (.cells #[.slice NA nn nc, .slice EA ne ec] 34)
  have ht2 := Blk.new w1 #[.slice NA nn nc, .slice EA ne ec] 34 [.slice NA nn nc, .slice EA ne ec] rfl
  have hok2 := TrOk.below hok hal
  have HB2 := Lib.hid (hB1.trans (hal.mono hB1.size))
  obtain ⟨w2, hw2⟩ : ∃ w2, w1.alloc (.cells #[.slice NA nn nc, .slice EA ne ec] 34) = w2 := ⟨_, rfl⟩
  obtain ⟨g1, hg1⟩ : ∃ g1, w1.heap.size = g1 := ⟨_, rfl⟩
  rw [hw2] at ht2 hok2 HB2
  rw [hg1] at ht2
  have HFE := Lib.hid (landEncode NA nn nc EA ne ec T w2 hok2 (by omega))
  have HT2 := Lib.hid ht2
  have HW2 := Lib.hid hw2
  have HG1 := Lib.hid hg1
  have HNN := Lib.hid hnn2
  rw [hnn2] at HSW HSK
  rw [hne2] at HSW HSK HPL
  have x0 := ht2.cell 0 rfl
  have x1 := ht2.cell 1 rfl
  clear hok hB1 hal ht2 hok2 HMK hnn2 hne2
  go_wp2_with fail
  clear hw2 hg1 x0 x1
  refine HFE.out.mono ?_
  rintro e w3 hmade
  rw [HEB.out] at hmade
  obtain ⟨A, c, rfl, hrd, hnc, hcm, -, -, hB3⟩ := made_slice hmade (u8_all HBY.out)
  rw [HLN.out] at hrd hnc ⊢
  have HB3 := Lib.hid (HB2.out.trans (hB3.mono HB2.out.size))
  have HT3 := Lib.hid (HT2.out.later hB3)
  have HN1 := Lib.hid (landNew A n c b B m bd sc (q : Int) w3 hnc hcm hrd (HSC.out.below HB3.out) (by omega) hm)
  have HR3 := Lib.hid hrd
  rw [fault_at hq2] at HN1
  have hg3 : g1 < w3.heap.size := HT3.out.1
  clear hmade hB3 hrd HFE HT2
  go_wp2_with fail
  refine HN1.out.mono ?_
  rintro e w4 ⟨ga, rfl, hSa, hgaL, hB4⟩
  have HB4 := Lib.hid (HB3.out.trans (hB4.mono HB3.out.size))
  have HT4 := Lib.hid (HT3.out.later hB4)
  have HN2 := Lib.hid (landNew A n c b none 0 0 [] (-1) w4 hnc hcm (HR3.out.below hB4) (Rd.nil _ _ _) (by omega) (by omega))
  rw [fault_none n] at HN2
  have hga4 := hSa.lt
  obtain ⟨Sa, hSa', hSaL⟩ : ∃ Sa, LSrc Sa w4 ga b sc q 0 ∧ ∀ b, Sa b → b < w4.heap.size := ⟨_, hSa, fun b hb => hb.2.1⟩
  have HSA := Lib.hid hSa'
  have HSL := Lib.hid hSaL
  clear hB4 hSa hSa' hSaL HN1 HT3 HR3
  go_wp2_with fail
  refine HN2.out.mono ?_
  rintro e w5 ⟨gb, rfl, hSb, hgbL, hB5⟩
  have HB5 := Lib.hid (HB4.out.trans (hB5.mono HB4.out.size))
  have HT5 := Lib.hid (HT4.out.later hB5)
  have HSA5 := Lib.hid (HSA.out.below hB5)
  obtain ⟨Sb, hSb', hSbL⟩ : ∃ Sb, LSrc Sb w5 gb b [] n 0 ∧ ∀ b, Sb b → w4.heap.size ≤ b := ⟨_, hSb, fun b hb => hb.1⟩
  have HKA := Lib.hid (show ∀ (W W' : World) (N : Nat), LSrc Sa W ga b sc q N → W.grownBy W' (some gb) → LSrc Sa W' ga b sc q N from fun W W' N h hg => h.kept hg (fun e => by injection e; omega) (fun x hx e => by injection e with e; have := HSL.out x hx; omega))
  have HKB := Lib.hid (show ∀ (W W' : World) (N : Nat), LSrc Sb W gb b [] n N → W.grownBy W' (some ga) → LSrc Sb W' gb b [] n N from fun W W' N h hg => h.kept hg (fun e => by injection e; omega) (fun x hx e => by injection e with e; have := hSbL x hx; omega))
  have hgwa : w.heap.size ≤ ga := by have := HB3.out.size; omega
  have hgwb : w.heap.size ≤ gb := by have := HB4.out.size; omega
  have hga5 : ga < w5.heap.size := by have := hB5.size; omega
  have HHW := Lib.hid (HLH.out Sb gb [] n 0 w5 hSb' (by decide))
  rw [HWH.out] at HHW
  simp only at HHW
  rw [HNN.out, HLN.out] at HHW
  clear hB5 hSb hSb' HN2 HT4 HSA HEB
  go_wp2_with fail
  refine HHW.out.mono ?_
  rintro e w6 ⟨L, lc, Nb, rfl, -, hSb6, hNb, hgr6⟩
  have HB6 := Lib.hid (HB5.out.trans (below_grown hgr6 HB5.out.size hgwb))
  have HT6 := Lib.hid (HT5.out.grown hgr6 (fun e => by injection e; omega))
  have HSA6 := Lib.hid (HKA.out _ _ _ HSA5.out hgr6)
  have HSB6 := Lib.hid hSb6
  have HHC := Lib.hid (HLH.out Sa ga sc q 0 w6 HSA6.out (by decide))
  rw [HCQ.out] at HHC
  have hlo : w3.heap.size ≤ w6.heap.size := by have := hgr6.size; omega
  clear hgr6 hSb6 HT5 HSA5 HHW HWH
  by_cases hhq : hd ≤ q
  · rw [if_pos hhq] at HHC
    simp only at HHC
    rw [HNN.out, HLN.out] at HHC
    have hhq' : (hd : Int) ≤ (q : Int) := by omega
    clear HCQ HLH
    go_wp2_with fail
    refine HHC.out.mono ?_
    rintro e w7 ⟨L7, lc7, Na, rfl, -, hSa7, hNa, hgr7⟩
    have HB7 := Lib.hid (HB6.out.trans (below_grown hgr7 HB6.out.size hgwa))
    have x1 := (HT6.out.grown hgr7 (fun e => by injection e; omega)).cell 1 rfl
    have HSA7 := Lib.hid hSa7
    have HSB7 := Lib.hid (HKB.out _ _ _ HSB6.out hgr7)
    clear hgr7 hSa7 HT6 HSA6 HSB6 HHC
    go_wp2_with fail
    go_loopw [15, 85] (fun av iv wr => ∃ i Na Nb : Nat, i ≤ ne ∧ av = .int .i64 (placeL T i : Nat) ∧ iv = .int .i64 i ∧ Na ≤ 6000 * (i + 1) ∧ Nb ≤ 6000 * (i + 1) ∧ LSrc Sa wr ga b sc q Na ∧ LSrc Sb wr gb b [] n Nb ∧ Below w.heap.size w wr) (fun _ iv _ => ne - (intOf iv).toNat)
    case atStart => exact ⟨0, Na, Nb, Nat.zero_le _, by rw [hp0], rfl, by omega, by omega, HSA7.out, HSB7.out, HB7.out⟩
    case round =>
      clear HSA7 HSB7 HB7 hNa hNb Na Nb x1
      obtain ⟨i, Na, Nb, hi, rfl, rfl, hNa, hNb, hSa, hSb, hBr⟩ := hrel
      by_cases hin : i < ne
      · obtain ⟨k1, k2, k3⟩ := HSW.out HTM.out i hin
        obtain ⟨k4, k5⟩ := HSK.out HTM.out i q hin hq2
        have hpl := HPL.out HTM.out i hin
        obtain ⟨p, hp⟩ : ∃ p, placeL T i = p := ⟨_, rfl⟩
        obtain ⟨p', hp'⟩ : ∃ p', placeL T (i + 1) = p' := ⟨_, rfl⟩
        obtain ⟨ev, hev⟩ : ∃ ev, T.events.getD i noEv = ev := ⟨_, rfl⟩
        rw [hp] at k1 k2 k3 k4 k5 hpl
        rw [hp'] at k3 k4 k5 hpl
        rw [hev] at k2 k4
        rw [hp]
        have HP := Lib.hid hp'
        have F1 := HLR.out Sb gb [] n Nb (p : Int) (nn : Int) wr hSb (by omega) ⟨by omega, by omega⟩
        rw [k1, k2, k3, HLN.out] at F1
        obtain ⟨m3, hm3⟩ : ∃ m3, ev.ids.length = m3 := ⟨_, rfl⟩
        rw [hm3] at F1
        have HF1 := Lib.hid F1
        have HSAr := Lib.hid hSa
        have HBr := Lib.hid hBr
        have hgaw := hSa.lt
        clear k1 k2 k3 F1 hSa hSb hBr hp hp' hev
        go_wp2_with fail
        refine HF1.out.mono ?_
        rintro e w8 ⟨K, kc, Nb', rfl, hok8, hSb8, hNb', hgr8, hK8⟩
        have hSa8 := HKA.out _ _ _ HSAr.out hgr8
        have hB8 := HBr.out.trans (below_grown hgr8 HBr.out.size hgwb)
        have hal := (Below.refl _ w8).alloc (Nat.le_refl _) (.cells #[.int .u64 ev.time, .slice K m3 kc] 38)
        have hx9 := Blk.new w8 #[.int .u64 ev.time, .slice K m3 kc] 38 [.int .u64 ev.time, .slice K m3 kc] rfl
        have HKN := Lib.hid (show ∀ a, K = some a → a.block ≠ ga from fun a e e2 => by have := hK8 a e; omega)
        have hga8 : ga < w8.heap.size := by have := hgr8.size; omega
        have HOK9 := Lib.hid (hok8.below hal)
        have HSA9 := Lib.hid (hSa8.below hal)
        have HSB9 := Lib.hid (hSb8.below hal)
        have HB9 := Lib.hid (hB8.trans (hal.mono hB8.size))
        obtain ⟨w9, hw9⟩ : ∃ w9, w8.alloc (.cells #[.int .u64 ev.time, .slice K m3 kc] 38) = w9 := ⟨_, rfl⟩
        obtain ⟨g9, hg9⟩ : ∃ g9, w8.heap.size = g9 := ⟨_, rfl⟩
        rw [hw9] at hx9 HOK9 HSA9 HSB9 HB9
        rw [hg9] at hx9 hga8
        have HX9 := Lib.hid hx9
        have x0 := hx9.cell 0 rfl
        have x1 := hx9.cell 1 rfl
        have F2 := HLR.out Sa ga sc q Na (p : Int) (nn : Int) w9 HSA9.out (by omega) ⟨by omega, by omega⟩
        have hms : (m3 : Int) ≤ 9223372036854775807 := by have := hok8.2.2; omega
        clear hok8 hSa8 hB8 hal hgr8 hSb8 hK8 HF1 HSAr HBr hx9
        by_cases hpq : p' ≤ q
        · obtain ⟨j1, j2⟩ := k4 hpq
          rw [j1, j2, HLN.out, hm3] at F2
          have HF2 := Lib.hid F2
          have hpq' : (p' : Int) ≤ (q : Int) := by omega
          clear F2 j1 j2 k4 k5
          go_wp2_with fail
          clear hw9 hg9 x0 x1
          refine HF2.out.mono ?_
          rintro e w10 ⟨K2, kc2, Na', rfl, hok10, hSa10, hNa', hgr10, -⟩
          have HX10 := Lib.hid (HX9.out.grown hgr10 (fun e => by injection e; omega))
          have hxk : EvOk w10 ev K kc := ⟨HOK9.out.1, rd_grown HOK9.out.2.1 hgr10 (fun a e _ e2 => by injection e2 with e2; exact HKN.out a e e2), HOK9.out.2.2⟩
          have hal := (Below.refl _ w10).alloc (Nat.le_refl _) (.cells #[.int .u64 ev.time, .slice K2 m3 kc2] 38)
          have hy := Blk.new w10 #[.int .u64 ev.time, .slice K2 m3 kc2] 38 [.int .u64 ev.time, .slice K2 m3 kc2] rfl
          have hB10 := HB9.out.trans (below_grown hgr10 HB9.out.size hgwa)
          have HX11 := Lib.hid (HX10.out.later hal)
          have HO1 := Lib.hid (hxk.below hal)
          have HO2 := Lib.hid (hok10.below hal)
          have HSA11 := Lib.hid (hSa10.below hal)
          have HSB11 := Lib.hid ((HKB.out _ _ _ HSB9.out hgr10).below hal)
          have HB11 := Lib.hid (hB10.trans (hal.mono hB10.size))
          obtain ⟨w11, hw11⟩ : ∃ w11, w10.alloc (.cells #[.int .u64 ev.time, .slice K2 m3 kc2] 38) = w11 := ⟨_, rfl⟩
          obtain ⟨g11, hg11⟩ : ∃ g11, w10.heap.size = g11 := ⟨_, rfl⟩
          rw [hw11] at hy HX11 HO1 HO2 HSA11 HSB11 HB11
          rw [hg11] at hy
          have FS := refSameEvent ev ev K K2 kc kc2 w11 HO1.out HO2.out
          rw [show decide (ev = ev) = true from decide_eq_true rfl, hm3] at FS
          have HFS := Lib.hid FS
          have x0 := HX11.out.cell 0 rfl
          have x1 := HX11.out.cell 1 rfl
          have y0 := hy.cell 0 rfl
          have y1 := hy.cell 1 rfl
          clear hok10 hSa10 hgr10 hxk hal hy hB10 HX9 HOK9 HSA9 HSB9 HB9 HX10 FS HF2 HKN
          go_wp2_with fail
          clear hw11 hg11 x0 x1 y0 y1
          refine HFS.out.mono ?_
          rintro e w12 ⟨rfl, hB12⟩
          have HSA12 := Lib.hid (HSA11.out.below hB12)
          have HSB12 := Lib.hid (HSB11.out.below hB12)
          have HB12 := Lib.hid (HB11.out.trans (hB12.mono HB11.out.size))
          clear hB12 HX11 HO1 HO2 HSA11 HSB11 HB11 HFS
          go_wp2_with fail
          go_roundw
          case rel => exact ⟨i + 1, Na', Nb', by omega, by rw [HP.out], by go_num, by omega, by omega, HSA12.out, HSB12.out, HB12.out⟩
          case measure => simp [intOf]; omega
        · have j1 := k5 hpq
          rw [j1, HLN.out] at F2
          obtain ⟨v, hv⟩ : ∃ v, scanV b q (p : Int) (nn : Int) = v := ⟨_, rfl⟩
          rw [hv] at F2
          have HF2 := Lib.hid F2
          have hpq' : ¬ (p' : Int) ≤ (q : Int) := by omega
          clear F2 j1 hv k4 k5
          go_wp2_with fail
          clear hw9 hg9 x0 x1
          refine HF2.out.mono ?_
          rintro e w10 ⟨K2, kc2, Na', rfl, -, hSa10, hNa', hgr10, -⟩
          have hB10 := HB9.out.trans (below_grown hgr10 HB9.out.size hgwa)
          have hal := (Below.refl _ w10).alloc (Nat.le_refl _) (.cells #[.int .u64 v.time, .slice K2 v.ids.length kc2] 38)
          have HSA11 := Lib.hid (hSa10.below hal)
          have HSB11 := Lib.hid ((HKB.out _ _ _ HSB9.out hgr10).below hal)
          have HB11 := Lib.hid (hB10.trans (hal.mono hB10.size))
          clear hSa10 hgr10 hal hB10 HX9 HOK9 HSA9 HSB9 HB9 HF2 HKN
          go_wp2_with fail
          go_roundw
          case rel => exact ⟨i + 1, Na', Nb', by omega, by rw [HP.out], by go_num, by omega, by omega, HSA11.out, HSB11.out, HB11.out⟩
          case measure => simp [intOf]; omega
      · have HBE := Lib.hid hBr
        clear hBr hSa hSb
        have hie : i = ne := by omega
        subst hie
        go_wp2_with fail
        refine (HA.out wr).mono ?_
        rintro e w8 ⟨rfl, hB8⟩
        go_wp2
        go_ret
        exact ⟨rfl, HBE.out.trans (hB8.mono HBE.out.size)⟩
  · rw [if_neg hhq] at HHC
    simp only [List.length_nil] at HHC
    rw [HLN.out] at HHC
    have hhq' : ¬ (hd : Int) ≤ (q : Int) := by omega
    clear HCQ HLH
    go_wp2_with fail
    refine HHC.out.mono ?_
    rintro e w7 ⟨L7, lc7, Na, rfl, -, hSa7, hNa, hgr7⟩
    have HB7 := Lib.hid (HB6.out.trans (below_grown hgr7 HB6.out.size hgwa))
    have x1 := (HT6.out.grown hgr7 (fun e => by injection e; omega)).cell 1 rfl
    have HSA7 := Lib.hid hSa7
    have HSB7 := Lib.hid (HKB.out _ _ _ HSB6.out hgr7)
    clear hgr7 hSa7 HT6 HSA6 HSB6 HHC
    go_wp2_with fail
    go_loopw [15, 85] (fun av iv wr => ∃ i Na Nb : Nat, i ≤ ne ∧ av = .int .i64 (placeL T i : Nat) ∧ iv = .int .i64 i ∧ Na ≤ 6000 * (i + 1) ∧ Nb ≤ 6000 * (i + 1) ∧ LSrc Sa wr ga b sc q Na ∧ LSrc Sb wr gb b [] n Nb ∧ Below w.heap.size w wr) (fun _ iv _ => ne - (intOf iv).toNat)
    case atStart => exact ⟨0, Na, Nb, Nat.zero_le _, by rw [hp0], rfl, by omega, by omega, HSA7.out, HSB7.out, HB7.out⟩
    case round =>
      clear HSA7 HSB7 HB7 hNa hNb Na Nb x1
      obtain ⟨i, Na, Nb, hi, rfl, rfl, hNa, hNb, hSa, hSb, hBr⟩ := hrel
      by_cases hin : i < ne
      · obtain ⟨k1, k2, k3⟩ := HSW.out HTM.out i hin
        obtain ⟨k4, k5⟩ := HSK.out HTM.out i q hin hq2
        have hpl := HPL.out HTM.out i hin
        obtain ⟨p, hp⟩ : ∃ p, placeL T i = p := ⟨_, rfl⟩
        obtain ⟨p', hp'⟩ : ∃ p', placeL T (i + 1) = p' := ⟨_, rfl⟩
        obtain ⟨ev, hev⟩ : ∃ ev, T.events.getD i noEv = ev := ⟨_, rfl⟩
        rw [hp] at k1 k2 k3 k4 k5 hpl
        rw [hp'] at k3 k4 k5 hpl
        rw [hev] at k2 k4
        rw [hp]
        have HP := Lib.hid hp'
        have F1 := HLR.out Sb gb [] n Nb (p : Int) (nn : Int) wr hSb (by omega) ⟨by omega, by omega⟩
        rw [k1, k2, k3, HLN.out] at F1
        obtain ⟨m3, hm3⟩ : ∃ m3, ev.ids.length = m3 := ⟨_, rfl⟩
        rw [hm3] at F1
        have HF1 := Lib.hid F1
        have HSAr := Lib.hid hSa
        have HBr := Lib.hid hBr
        have hgaw := hSa.lt
        clear k1 k2 k3 F1 hSa hSb hBr hp hp' hev
        go_wp2_with fail
        refine HF1.out.mono ?_
        rintro e w8 ⟨K, kc, Nb', rfl, hok8, hSb8, hNb', hgr8, hK8⟩
        have hSa8 := HKA.out _ _ _ HSAr.out hgr8
        have hB8 := HBr.out.trans (below_grown hgr8 HBr.out.size hgwb)
        have hal := (Below.refl _ w8).alloc (Nat.le_refl _) (.cells #[.int .u64 ev.time, .slice K m3 kc] 38)
        have hx9 := Blk.new w8 #[.int .u64 ev.time, .slice K m3 kc] 38 [.int .u64 ev.time, .slice K m3 kc] rfl
        have HKN := Lib.hid (show ∀ a, K = some a → a.block ≠ ga from fun a e e2 => by have := hK8 a e; omega)
        have hga8 : ga < w8.heap.size := by have := hgr8.size; omega
        have HOK9 := Lib.hid (hok8.below hal)
        have HSA9 := Lib.hid (hSa8.below hal)
        have HSB9 := Lib.hid (hSb8.below hal)
        have HB9 := Lib.hid (hB8.trans (hal.mono hB8.size))
        obtain ⟨w9, hw9⟩ : ∃ w9, w8.alloc (.cells #[.int .u64 ev.time, .slice K m3 kc] 38) = w9 := ⟨_, rfl⟩
        obtain ⟨g9, hg9⟩ : ∃ g9, w8.heap.size = g9 := ⟨_, rfl⟩
        rw [hw9] at hx9 HOK9 HSA9 HSB9 HB9
        rw [hg9] at hx9 hga8
        have HX9 := Lib.hid hx9
        have x0 := hx9.cell 0 rfl
        have x1 := hx9.cell 1 rfl
        have F2 := HLR.out Sa ga sc q Na (p : Int) (nn : Int) w9 HSA9.out (by omega) ⟨by omega, by omega⟩
        have hms : (m3 : Int) ≤ 9223372036854775807 := by have := hok8.2.2; omega
        clear hok8 hSa8 hB8 hal hgr8 hSb8 hK8 HF1 HSAr HBr hx9
        by_cases hpq : p' ≤ q
        · obtain ⟨j1, j2⟩ := k4 hpq
          rw [j1, j2, HLN.out, hm3] at F2
          have HF2 := Lib.hid F2
          have hpq' : (p' : Int) ≤ (q : Int) := by omega
          clear F2 j1 j2 k4 k5
          go_wp2_with fail
          clear hw9 hg9 x0 x1
          refine HF2.out.mono ?_
          rintro e w10 ⟨K2, kc2, Na', rfl, hok10, hSa10, hNa', hgr10, -⟩
          have HX10 := Lib.hid (HX9.out.grown hgr10 (fun e => by injection e; omega))
          have hxk : EvOk w10 ev K kc := ⟨HOK9.out.1, rd_grown HOK9.out.2.1 hgr10 (fun a e _ e2 => by injection e2 with e2; exact HKN.out a e e2), HOK9.out.2.2⟩
          have hal := (Below.refl _ w10).alloc (Nat.le_refl _) (.cells #[.int .u64 ev.time, .slice K2 m3 kc2] 38)
          have hy := Blk.new w10 #[.int .u64 ev.time, .slice K2 m3 kc2] 38 [.int .u64 ev.time, .slice K2 m3 kc2] rfl
          have hB10 := HB9.out.trans (below_grown hgr10 HB9.out.size hgwa)
          have HX11 := Lib.hid (HX10.out.later hal)
          have HO1 := Lib.hid (hxk.below hal)
          have HO2 := Lib.hid (hok10.below hal)
          have HSA11 := Lib.hid (hSa10.below hal)
          have HSB11 := Lib.hid ((HKB.out _ _ _ HSB9.out hgr10).below hal)
          have HB11 := Lib.hid (hB10.trans (hal.mono hB10.size))
          obtain ⟨w11, hw11⟩ : ∃ w11, w10.alloc (.cells #[.int .u64 ev.time, .slice K2 m3 kc2] 38) = w11 := ⟨_, rfl⟩
          obtain ⟨g11, hg11⟩ : ∃ g11, w10.heap.size = g11 := ⟨_, rfl⟩
          rw [hw11] at hy HX11 HO1 HO2 HSA11 HSB11 HB11
          rw [hg11] at hy
          have FS := refSameEvent ev ev K K2 kc kc2 w11 HO1.out HO2.out
          rw [show decide (ev = ev) = true from decide_eq_true rfl, hm3] at FS
          have HFS := Lib.hid FS
          have x0 := HX11.out.cell 0 rfl
          have x1 := HX11.out.cell 1 rfl
          have y0 := hy.cell 0 rfl
          have y1 := hy.cell 1 rfl
          clear hok10 hSa10 hgr10 hxk hal hy hB10 HX9 HOK9 HSA9 HSB9 HB9 HX10 FS HF2 HKN
          go_wp2_with fail
          clear hw11 hg11 x0 x1 y0 y1
          refine HFS.out.mono ?_
          rintro e w12 ⟨rfl, hB12⟩
          have HSA12 := Lib.hid (HSA11.out.below hB12)
          have HSB12 := Lib.hid (HSB11.out.below hB12)
          have HB12 := Lib.hid (HB11.out.trans (hB12.mono HB11.out.size))
          clear hB12 HX11 HO1 HO2 HSA11 HSB11 HB11 HFS
          go_wp2_with fail
          go_roundw
          case rel => exact ⟨i + 1, Na', Nb', by omega, by rw [HP.out], by go_num, by omega, by omega, HSA12.out, HSB12.out, HB12.out⟩
          case measure => simp [intOf]; omega
        · have j1 := k5 hpq
          rw [j1, HLN.out] at F2
          obtain ⟨v, hv⟩ : ∃ v, scanV b q (p : Int) (nn : Int) = v := ⟨_, rfl⟩
          rw [hv] at F2
          have HF2 := Lib.hid F2
          have hpq' : ¬ (p' : Int) ≤ (q : Int) := by omega
          clear F2 j1 hv k4 k5
          go_wp2_with fail
          clear hw9 hg9 x0 x1
          refine HF2.out.mono ?_
          rintro e w10 ⟨K2, kc2, Na', rfl, -, hSa10, hNa', hgr10, -⟩
          have hB10 := HB9.out.trans (below_grown hgr10 HB9.out.size hgwa)
          have hal := (Below.refl _ w10).alloc (Nat.le_refl _) (.cells #[.int .u64 v.time, .slice K2 v.ids.length kc2] 38)
          have HSA11 := Lib.hid (hSa10.below hal)
          have HSB11 := Lib.hid ((HKB.out _ _ _ HSB9.out hgr10).below hal)
          have HB11 := Lib.hid (hB10.trans (hal.mono hB10.size))
          clear hSa10 hgr10 hal hB10 HX9 HOK9 HSA9 HSB9 HB9 HF2 HKN
          go_wp2_with fail
          go_roundw
          case rel => exact ⟨i + 1, Na', Nb', by omega, by rw [HP.out], by go_num, by omega, by omega, HSA11.out, HSB11.out, HB11.out⟩
          case measure => simp [intOf]; omega
      · have HBE := Lib.hid hBr
        clear hBr hSa hSb
        have hie : i = ne := by omega
        subst hie
        go_wp2_with fail
        refine (HA.out wr).mono ?_
        rintro e w8 ⟨rfl, hB8⟩
        go_wp2
        go_ret
        exact ⟨rfl, HBE.out.trans (hB8.mono HBE.out.size)⟩
end Go.Proofs.Ytbbjoffknoaoiaa.Scan
