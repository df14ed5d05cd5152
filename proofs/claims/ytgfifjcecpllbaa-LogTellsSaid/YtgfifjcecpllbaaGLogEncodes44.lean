/-
  The walk of the law LogCut (stage 10). By an AI agent.
-/
import Derived.Test.YtgfifjcecpllbaaGLogEncodes39
import Derived.Test.YtgfifjcecpllbaaGLogEncodes30
import Derived.Test.YtgfifjcecpllbaaGLogEncodes27
namespace Go.Proofs.Ytgfifjcecpllbaa.Log
open Go.RowKit Go.Proofs.Ytgfifjcecpllbaa.Ints Go.Proofs.Ytgfifjcecpllbaa.Mem Go.Proofs.Ytgfifjcecpllbaa.SumMath Go.Proofs.Ytgfifjcecpllbaa.SumWalks Go.Proofs.Ytgfifjcecpllbaa.Trace Go.Proofs.Ytgfifjcecpllbaa.Record

theorem whole_stop {k p i : Nat} {l : List Ev} (hi : i < l.length) (h : k < p + 14 + (l.getD i noEv).ids.length) : wholeL k p (l.drop i) = (0, p) := by
  rw [List.drop_eq_getElem_cons hi]
  have e : l.getD i noEv = l[i] := by simp [List.getD, hi]
  rw [e] at h
  rw [wholeL, if_pos h]
theorem whole_next {k p i : Nat} {l : List Ev} (hi : i < l.length) (h : ¬ k < p + 14 + (l.getD i noEv).ids.length) :
    wholeL k p (l.drop i) = ((wholeL k (p + 14 + (l.getD i noEv).ids.length) (l.drop (i + 1))).1 + 1, (wholeL k (p + 14 + (l.getD i noEv).ids.length) (l.drop (i + 1))).2) := by
  rw [List.drop_eq_getElem_cons hi]
  have e : l.getD i noEv = l[i] := by simp [List.getD, hi]
  rw [e] at h ⊢
  rw [wholeL, if_neg h]
theorem whole_end {k p i : Nat} {l : List Ev} (hi : l.length ≤ i) : wholeL k p (l.drop i) = (0, p) := by
  rw [List.drop_of_length_le hi]
  rfl

set_option maxHeartbeats 8000000 in
set_option maxRecDepth 100000 in
theorem lawCut (start : Int) (N : Option Addr) (k kc : Nat) (ns : List Int) (cut : Nat) (w : World) (hs : 0 ≤ start ∧ start ≤ 18446744073709551615) (hN : Rd .u16 w N k ns) (hk : k ≤ maxLen) (hnn : ∀ z ∈ ns, 0 ≤ z) (hcut : cut ≤ 65535) :
    Calls Try.prog 9 #[.int .u64 start, .slice N k kc, .int .u16 (cut : Int)] w fun e w' => e = .returned (.bool true) ∧ Below w.heap.size w w' := by
  have q63 : maxLen = 9223372036854775807 := rfl
  have HM := Lib.hid (lawMake start N k kc ns w hs hN hk)
  have hmay := make_may (start := start) ns hnn
  have hlen := make_enc (start := start) hnn
  have hsm := (make_small start ns).1
  obtain ⟨T, hT⟩ : ∃ T, makeM start ns = T := ⟨_, rfl⟩
  rw [hT] at HM hmay hlen hsm
  have HMAY := Lib.hid hmay
  have hhead := enc_head hmay
  have hhn := head_le_enc hmay
  have HBY := Lib.hid (enc_bytes T)
  have HCH := Lib.hid (fun q h => cut_head hmay (k := q) h)
  have HCR := Lib.hid (fun ht q h1 h2 => cut_recs hmay ht (k := q) h1 h2)
  obtain ⟨b, hb⟩ : ∃ b, encL T = b := ⟨_, rfl⟩
  rw [hb] at hhead hhn hlen HBY HCH HCR
  obtain ⟨n, hn⟩ : ∃ n, b.length = n := ⟨_, rfl⟩
  obtain ⟨hd, hhd⟩ : ∃ hd, (headL T.names).length = hd := ⟨_, rfl⟩
  rw [hn] at hlen hhn HCR
  rw [hhd] at hhead hhn HCH HCR
  have HHD := Lib.hid hhead
  have HLN := Lib.hid hn
  have HEB := Lib.hid hb
  obtain ⟨q, hq1, hq2⟩ : ∃ q : Nat, (cut : Int) % ((n : Int) + 1) = (q : Int) ∧ q ≤ n := ⟨cut % (n + 1), by rw [show (n : Int) + 1 = ((n + 1 : Nat) : Int) by omega, Int.natCast_emod], by have := Nat.mod_lt cut (show 0 < n + 1 by omega); omega⟩
  have hn0 : ((n : Int) + 1 == 0) = false := by simp; omega
  have hn1 : (n : Int) ≤ 6000 := by omega
  have hqn : (q : Int) ≤ 6000 := by omega
  clear hT hmay hhead hb hn hhd hN
  go_enter Try.func9, Try.ntmps9
  go_wp2_with fail
  refine HM.out.mono ?_
  rintro e w1 ⟨NA, nn, nc, EA, ne, ec, rfl, hok, hB1⟩
  have hne : ne ≤ 60 := by have := hok.elen; omega
  have hal := (Below.refl _ w1).alloc (Nat.le_refl _) (.cells #[.slice NA nn nc, .slice EA ne ec] 25)
  have ht2 := Blk.new w1 #[.slice NA nn nc, .slice EA ne ec] 25 [.slice NA nn nc, .slice EA ne ec] rfl
  have hok2 := TrOk.below hok hal
  have HB2 := Lib.hid (hB1.trans (hal.mono hB1.size))
  obtain ⟨w2, hw2⟩ : ∃ w2, w1.alloc (.cells #[.slice NA nn nc, .slice EA ne ec] 25) = w2 := ⟨_, rfl⟩
  obtain ⟨g1, hg1⟩ : ∃ g1, w1.heap.size = g1 := ⟨_, rfl⟩
  rw [hw2] at ht2 hok2 HB2
  rw [hg1] at ht2
  have HFE := Lib.hid (landEncode NA nn nc EA ne ec T w2 hok2 (by omega))
  have HT2 := Lib.hid ht2
  have HO2 := Lib.hid hok2
  have HW2 := Lib.hid hw2
  have HG1 := Lib.hid hg1
  clear hok hB1 hal ht2 hok2 hw2 hg1 HM
  go_wp2_with fail
  rw [HW2.out, HG1.out]
  refine HFE.out.mono ?_
  rintro e w3 hmade
  rw [HEB.out] at hmade
  obtain ⟨A, c, rfl, hrd, hnc, hcm, -, -, hB3⟩ := made_slice hmade (u8_all HBY.out)
  rw [HLN.out] at hrd hnc ⊢
  have HB3 := Lib.hid (HB2.out.trans (hB3.mono HB2.out.size))
  have HT3 := Lib.hid (HT2.out.later hB3)
  have HO3 := Lib.hid (HO2.out.below hB3)
  have HR3 := Lib.hid hrd
  have FH := landHead A n c b w3 hnc hcm (by omega) hrd
  unfold GotHead at FH
  rw [HHD.out] at FH
  simp only at FH
  obtain ⟨tn, htn⟩ : ∃ tn, T.names.length = tn := ⟨_, rfl⟩
  rw [htn] at FH
  have HFH := Lib.hid FH
  clear hmade hB3 hrd FH HT2 HO2 HFE htn
  go_wp2_with fail
  refine HFH.out.mono ?_
  rintro e w4 ⟨L, cl, rfl, -, hB4⟩
  have HB4 := Lib.hid (HB3.out.trans (hB4.mono HB3.out.size))
  have HT4 := Lib.hid (HT3.out.later hB4)
  have HO4 := Lib.hid (HO3.out.below hB4)
  have hrd4 := (HR3.out.below hB4).take (m := q) hq2
  have FD := landDecode A q c (b.take q) w4 (by omega) hcm (by omega) hrd4
  unfold GotDec at FD
  have HTM := Lib.hid (tr_times HO4.out)
  obtain ⟨U, hU⟩ : ∃ U, decT (b.take q) = U := ⟨_, rfl⟩
  obtain ⟨er, her⟩ : ∃ er, decE (b.take q) = er := ⟨_, rfl⟩
  rw [hU, her] at FD
  obtain ⟨un, hun⟩ : ∃ un, U.names.length = un := ⟨_, rfl⟩
  obtain ⟨ue, hue⟩ : ∃ ue, U.events.length = ue := ⟨_, rfl⟩
  rw [hun, hue] at FD
  have HFD := Lib.hid FD
  have HU := Lib.hid hU
  have HER := Lib.hid her
  have HUE := Lib.hid hue
  have hsl := fun W => slice_upto (P := Try.prog) 29 (by kernel_rfl) 1 (by kernel_rfl) A n c q (by omega) W
  clear hB4 hrd4 FD hU her hun hue HT3 HO3 HFH
  go_wp2_with fail
  refine HFD.out.mono ?_
  rintro e w5 ⟨NB, mc, EB, fc, rfl, hok5, hB5⟩
  have hal := (Below.refl _ w5).alloc (Nat.le_refl _) (.cells #[.slice NB un mc, .slice EB ue fc] 25)
  have HU6 := Lib.hid (Blk.new w5 #[.slice NB un mc, .slice EB ue fc] 25 [.slice NB un mc, .slice EB ue fc] rfl)
  have HT6 := Lib.hid ((HT4.out.later hB5).later hal)
  have HO6 := Lib.hid ((HO4.out.below hB5).below hal)
  have HV6 := Lib.hid (hok5.below hal)
  have hB45 := HB4.out.trans (hB5.mono HB4.out.size)
  have HB6 := Lib.hid (hB45.trans (hal.mono hB45.size))
  obtain ⟨w6, hw6⟩ : ∃ w6, w5.alloc (.cells #[.slice NB un mc, .slice EB ue fc] 25) = w6 := ⟨_, rfl⟩
  obtain ⟨g5, hg5⟩ : ∃ g5, w5.heap.size = g5 := ⟨_, rfl⟩
  rw [hw6] at HU6 HT6 HO6 HV6 HB6
  rw [hg5] at HU6
  clear hal hok5 hB5 hB45 HT4 HO4 HFD hsl
  have x1 := HU6.out.cell 1 rfl
  by_cases hqh : q < hd
  · have hrec := HCH.out q hqh
    have e5 : er = 5 := by rw [← HER.out]; unfold decE; rw [hrec]; rfl
    have e6 : ue = 0 := by rw [← HUE.out, ← HU.out]; unfold decT; rw [hrec]; rfl
    subst e5; subst e6
    have hqh' : (q : Int) < (hd : Int) := by omega
    clear hrec
    go_wp2_with fail
    refine (awakeL w6).mono ?_
    rintro e w7 ⟨rfl, hB7⟩
    go_wp2
    go_ret
    exact ⟨rfl, HB6.out.trans (hB7.mono HB6.out.size)⟩
  have hqh' : ¬ ((q : Int) < (hd : Int)) := by omega
  have hrec := HCR.out HTM.out q (by omega) hq2
  have HUQ := Lib.hid (show U = ⟨T.names, T.events.take (wholeL q hd T.events).1⟩ by rw [← HU.out]; unfold decT; rw [hrec])
  have HEQ := Lib.hid (show er = if (wholeL q hd T.events).2 = q then 0 else 7 by
    rw [← HER.out]
    unfold decE
    rw [hrec]
    simp only
    split
    · rfl
    · rfl)
  have y1 := HT6.out.cell 1 rfl
  clear hrec HCH HCR x1
  go_wp2_with fail
  clear hw6 hg5 y1 w5
  go_loopw [16, 17, 70] (fun wv av iv wr => ∃ i p : Nat, i ≤ ne ∧ wv = .int .i64 i ∧ av = .int .i64 p ∧ iv = .int .i64 i ∧ p ≤ q ∧ Below w6.heap.size w6 wr ∧ Hid (wholeL q hd T.events = ((wholeL q p (T.events.drop i)).1 + i, (wholeL q p (T.events.drop i)).2))) (fun _ _ iv _ => ne - (intOf iv).toNat)
  case atStart => exact ⟨0, hd, Nat.zero_le _, rfl, rfl, rfl, by omega, Below.refl _ _, by rw [List.drop_zero]; rfl⟩
  case round =>
    obtain ⟨i, p, hi, rfl, rfl, rfl, hp, hBr, hWL⟩ := hrel
    have hTl := HO6.out.elen
    by_cases hgo : i < ne ∧ p + 14 + (T.events.getD i noEv).ids.length ≤ q
    · obtain ⟨hin, hle⟩ := hgo
      obtain ⟨b', off, K, ck, rfl, c0, c1, hokk⟩ := (HO6.out.below hBr).evs.kids (k := i) (by rw [hTl]; exact hin)
      have HNX := Lib.hid (show wholeL q hd T.events = ((wholeL q (p + 14 + (T.events.getD i noEv).ids.length) (T.events.drop (i + 1))).1 + (i + 1), (wholeL q (p + 14 + (T.events.getD i noEv).ids.length) (T.events.drop (i + 1))).2) by
        rw [hWL.out, whole_next (by rw [hTl]; exact hin) (by omega)]
        simp only [Prod.mk.injEq, and_true]
        omega)
      obtain ⟨ev, hev⟩ : ∃ ev, T.events.getD i noEv = ev := ⟨_, rfl⟩
      rw [hev] at c0 c1 hokk hle HNX
      obtain ⟨m3, hm3⟩ : ∃ m3, ev.ids.length = m3 := ⟨_, rfl⟩
      rw [hm3] at c1 hle HNX
      have hx := Blk.new wr #[.int .u64 ev.time, .slice K m3 ck] 39 [.int .u64 ev.time, .slice K m3 ck] rfl
      have x1 := hx.cell 1 rfl
      have hle' : ¬ ((p : Int) + 14 + (m3 : Int) > (q : Int)) := by omega
      have hal := hBr.alloc hBr.size (.cells #[.int .u64 ev.time, .slice K m3 ck] 39)
      have HAL := Lib.hid hal
      clear hev hm3 hokk hx hWL hal hTl
      go_wp2_with fail
      go_roundw
      case rel => exact ⟨i + 1, p + (14 + m3), by omega, by go_num, by go_num, by go_num, by omega, HAL.out, by rw [← Nat.add_assoc p 14 m3]; exact HNX.out⟩
      case measure => simp [intOf]; omega
    have hW : wholeL q hd T.events = (i, p) := by
      rw [hWL.out]
      by_cases hin : i < ne
      · rw [whole_stop (by rw [hTl]; exact hin) (by omega)]; simp
      · rw [whole_end (by omega)]; simp
    have hUi : U = ⟨T.names, T.events.take i⟩ := by rw [HUQ.out, hW]
    have hEi : er = if p = q then 0 else 7 := by rw [HEQ.out, hW]
    have hiu : i = ue := by
      rw [← HUE.out, hUi]
      show i = (T.events.take i).length
      rw [List.length_take]
      omega
    subst hiu
    have HCUT : cutT T (i : Int) = U := by
      unfold cutT
      rw [if_pos HMAY.out, hUi, Int.toNat_natCast]
    have hEV := Lib.hid (HO6.out.below hBr).evs
    have hstop := Lib.hid hgo
    clear hW hUi hWL HUQ HEQ HUE hgo
    by_cases hpq : p = q
    · have hpq' : ((p : Int) == (q : Int)) = true := by simp; omega
      rw [if_pos hpq] at hEi
      subst hEi
      clear hpq
      by_cases hin : i < ne
      · obtain ⟨b', off, K, ck, rfl, c0, c1, hokk⟩ := Evs.kids hEV.out (k := i) (by rw [hTl]; exact hin)
        have hgt : p + 14 + (T.events.getD i noEv).ids.length > q := by have := hstop.out; omega
        have hmi := (may_ids HMAY.out (k := i) (by rw [hTl]; exact hin)).2
        obtain ⟨ev, hev⟩ : ∃ ev, T.events.getD i noEv = ev := ⟨_, rfl⟩
        rw [hev] at c0 c1 hokk hgt hmi
        obtain ⟨m3, hm3⟩ : ∃ m3, ev.ids.length = m3 := ⟨_, rfl⟩
        have hids := ids_count hmi
        rw [hm3] at c1 hgt hids
        have HBX := Lib.hid (hBr.alloc hBr.size (.cells #[.int .u64 ev.time, .slice K m3 ck] 39))
        have hx := Blk.new wr #[.int .u64 ev.time, .slice K m3 ck] 39 [.int .u64 ev.time, .slice K m3 ck] rfl
        have x1 := hx.cell 1 rfl
        have hgt' : (p : Int) + 14 + (m3 : Int) > (q : Int) := by omega
        have hm3b : (m3 : Int) ≤ 64 := by omega
        clear hev hm3 hokk hx hEV hstop hgt hids hmi
        go_wp2_with fail
        obtain ⟨V, hV⟩ : ∃ V, V = (wr.alloc (.cells #[.int .u64 ev.time, .slice K m3 ck] 39)).drew := ⟨_, rfl⟩
        have HBV := Lib.hid (show Below w6.heap.size w6 V by rw [hV]; exact HBX.out.drew)
        have HT7 := Lib.hid (HT6.out.later HBV.out)
        have HU7 := Lib.hid (HU6.out.later HBV.out)
        have HV7 := Lib.hid (HV6.out.below HBV.out)
        have HFC := Lib.hid (HCUT ▸ refCut NA nn nc (some ⟨b', off, none⟩) ne ec T (i : Int) V (HO6.out.below HBV.out) ⟨by omega, by omega⟩)
        have HB7 := Lib.hid (HB6.out.trans (HBV.out.mono HB6.out.size))
        clear HBX HBV
        refine wp_region_held_drew (S := fun W => W.cell? ⟨g1, 0, none⟩ = some (.slice NA nn nc) ∧ W.cell? ⟨g1, 1, none⟩ = some (.slice (some ⟨b', off, none⟩) ne ec) ∧ W.cell? ⟨g5, 0, none⟩ = some (.slice NB un mc) ∧ W.cell? ⟨g5, 1, none⟩ = some (.slice EB i fc)) (by kernel_rfl) (by rw [← hV]; exact ⟨HT7.out.cell 0 rfl, HT7.out.cell 1 rfl, HU7.out.cell 0 rfl, HU7.out.cell 1 rfl⟩) (fun hHeld => ?_)
        rw [← hV] at hHeld ⊢
        clear hV
        refine wpAnyH_take (i := 0) (oi := ?tko1) (v := ?tkv1) ?tkh1 (by kernel_rfl) (by kernel_rfl) (by kernel_rfl) ?tkq1 ?tky1 hHeld ?tkr1
        case tkh1 => (simp only [List.getElem?_toArray, List.getElem?_cons_zero]; rfl)
        case tkq1 => exact fun _ _ _ h => h
        case tky1 => exact Or.inl ⟨by rfl, by intro wSw hSw; (try dsimp only at hSw); go_simp; try with_reducible rfl⟩
        try simp only [Act.put, List.setIfInBounds_toArray, List.set_cons_zero, List.set_cons_succ]
        refine wpAnyH_take (i := 1) (oi := ?tko2) (v := ?tkv2) ?tkh2 (by kernel_rfl) (by kernel_rfl) (by kernel_rfl) ?tkq2 ?tky2 hHeld ?tkr2
        case tkh2 => (simp only [List.getElem?_toArray, List.getElem?_cons_succ, List.getElem?_cons_zero]; rfl)
        case tkq2 => exact fun _ _ _ h => h
        case tky2 => exact Or.inl ⟨by rfl, by intro wSw hSw; (try dsimp only at hSw); go_simp; try with_reducible rfl⟩
        try simp only [Act.put, List.setIfInBounds_toArray, List.set_cons_zero, List.set_cons_succ]
        refine wpAnyH_take (i := 2) (oi := ?tko3) (v := ?tkv3) ?tkh3 (by kernel_rfl) (by kernel_rfl) (by kernel_rfl) ?tkq3 ?tky3 hHeld ?tkr3
        case tkh3 => (simp only [List.getElem?_toArray, List.getElem?_cons_succ, List.getElem?_cons_zero]; rfl)
        case tkq3 => exact fun _ _ _ h => h
        case tky3 => exact Or.inl ⟨by rfl, by intro wSw hSw; (try dsimp only at hSw); go_simp; try with_reducible rfl⟩
        try simp only [Act.put, List.setIfInBounds_toArray, List.set_cons_zero, List.set_cons_succ]
        refine wpAnyH_take (i := 3) (oi := ?tko4) (v := ?tkv4) ?tkh4 (by kernel_rfl) (by kernel_rfl) (by kernel_rfl) ?tkq4 ?tky4 hHeld ?tkr4
        case tkh4 => (simp only [List.getElem?_toArray, List.getElem?_cons_succ, List.getElem?_cons_zero]; rfl)
        case tkq4 => exact fun _ _ _ h => h
        case tky4 => exact Or.inl ⟨by rfl, by intro wSw hSw; (try dsimp only at hSw); go_simp; try with_reducible rfl⟩
        try simp only [Act.put, List.setIfInBounds_toArray, List.set_cons_zero, List.set_cons_succ]
        refine wpAnyH_take (i := 4) (oi := ?tko5) (v := ?tkv5) ?tkh5 (by kernel_rfl) (by kernel_rfl) (by kernel_rfl) ?tkq5 ?tky5 hHeld ?tkr5
        case tkh5 => (simp only [List.getElem?_toArray, List.getElem?_cons_succ, List.getElem?_cons_zero]; rfl)
        case tkq5 => exact fun _ _ _ h => h
        case tky5 => exact Or.inl ⟨by rfl, by intro wSw hSw; (try dsimp only at hSw); go_simp; try with_reducible rfl⟩
        try simp only [Act.put, List.setIfInBounds_toArray, List.set_cons_zero, List.set_cons_succ]
        refine wpAnyH_take (i := 5) (oi := ?tko6) (v := ?tkv6) ?tkh6 (by kernel_rfl) (by kernel_rfl) (by kernel_rfl) ?tkq6 ?tky6 hHeld ?tkr6
        case tkh6 => (simp only [List.getElem?_toArray, List.getElem?_cons_succ, List.getElem?_cons_zero]; rfl)
        case tkq6 => exact fun _ _ _ h => h
        case tky6 => exact Or.inl ⟨by rfl, by intro wSw hSw; (try dsimp only at hSw); go_simp; try with_reducible rfl⟩
        try simp only [Act.put, List.setIfInBounds_toArray, List.set_cons_zero, List.set_cons_succ]
        refine wpAnyH_take (i := 6) (oi := ?tko7) (v := ?tkv7) ?tkh7 (by kernel_rfl) (by kernel_rfl) (by kernel_rfl) ?tkq7 ?tky7 hHeld ?tkr7
        case tkh7 => (simp only [List.getElem?_toArray, List.getElem?_cons_succ, List.getElem?_cons_zero]; rfl)
        case tkq7 => exact fun _ _ _ h => h
        case tky7 => exact Or.inl ⟨by rfl, by intro wSw hSw; (try dsimp only at hSw); go_simp; try with_reducible rfl⟩
        try simp only [Act.put, List.setIfInBounds_toArray, List.set_cons_zero, List.set_cons_succ]
        refine wpAnyH_take (i := 7) (oi := ?tko8) (v := ?tkv8) ?tkh8 (by kernel_rfl) (by kernel_rfl) (by kernel_rfl) ?tkq8 ?tky8 hHeld ?tkr8
        case tkh8 => (simp only [List.getElem?_toArray, List.getElem?_cons_succ, List.getElem?_cons_zero]; rfl)
        case tkq8 => exact fun _ _ _ h => h
        case tky8 => exact Or.inl ⟨by rfl, by intro wSw hSw; (try dsimp only at hSw); go_simp; try with_reducible rfl⟩
        try simp only [Act.put, List.setIfInBounds_toArray, List.set_cons_zero, List.set_cons_succ]
        refine wpAnyH_take (i := 8) (oi := ?tko9) (v := ?tkv9) ?tkh9 (by kernel_rfl) (by kernel_rfl) (by kernel_rfl) ?tkq9 ?tky9 hHeld ?tkr9
        case tkh9 => (simp only [List.getElem?_toArray, List.getElem?_cons_succ, List.getElem?_cons_zero]; rfl)
        case tkq9 => exact fun _ _ _ h => h
        case tky9 => exact Or.inl ⟨by rfl, by intro wSw hSw; (try dsimp only at hSw); go_simp; try with_reducible rfl⟩
        try simp only [Act.put, List.setIfInBounds_toArray, List.set_cons_zero, List.set_cons_succ]
        refine wpAnyH_take (i := 9) (oi := ?tko10) (v := ?tkv10) ?tkh10 (by kernel_rfl) (by kernel_rfl) (by kernel_rfl) ?tkq10 ?tky10 hHeld ?tkr10
        case tkh10 => (simp only [List.getElem?_toArray, List.getElem?_cons_succ, List.getElem?_cons_zero]; rfl)
        case tkq10 => exact fun _ _ _ h => h
        case tky10 => exact Or.inl ⟨by rfl, by intro wSw hSw; (try dsimp only at hSw); go_simp; try with_reducible rfl⟩
        try simp only [Act.put, List.setIfInBounds_toArray, List.set_cons_zero, List.set_cons_succ]
        refine wpAnyH_take (i := 10) (oi := ?tko11) (v := ?tkv11) ?tkh11 (by kernel_rfl) (by kernel_rfl) (by kernel_rfl) ?tkq11 ?tky11 hHeld ?tkr11
        case tkh11 => (simp only [List.getElem?_toArray, List.getElem?_cons_succ, List.getElem?_cons_zero]; rfl)
        case tkq11 => exact fun _ _ _ h => h
        case tky11 => exact Or.inl ⟨by rfl, by intro wSw hSw; (try dsimp only at hSw); go_simp; try with_reducible rfl⟩
        try simp only [Act.put, List.setIfInBounds_toArray, List.set_cons_zero, List.set_cons_succ]
        refine wpAnyH_take (i := 11) (oi := ?tko12) (v := ?tkv12) ?tkh12 (by kernel_rfl) (by kernel_rfl) (by kernel_rfl) ?tkq12 ?tky12 hHeld ?tkr12
        case tkh12 => (simp only [List.getElem?_toArray, List.getElem?_cons_succ, List.getElem?_cons_zero]; rfl)
        case tkq12 => exact fun _ _ _ h => h
        case tky12 => exact Or.inl ⟨by rfl, by intro wSw hSw; (try dsimp only at hSw); go_simp; try with_reducible rfl⟩
        try simp only [Act.put, List.setIfInBounds_toArray, List.set_cons_zero, List.set_cons_succ]
        refine wpAnyH_ready (rs := [12]) (by kernel_rfl) (by simp) ?_
        refine AllReadyH.cons (o := ?tko13) ?tkh13 (fun Kt13 hKt13 => ?_) AllReadyH.nil
        case tkh13 => (simp only [List.getElem?_toArray, List.getElem?_cons_succ, List.getElem?_cons_zero]; rfl)
        go_simp
        (go_at_call 22; refine HFC.out.mono ?_; rintro e v1 ⟨NC, cn, cc, EC, cne, cec, rfl, hk1, hd1⟩; have t1 := HT7.out.later hd1; have u1 := HU7.out.later hd1)
        refine hKt13.out _ _ ?_ (fun hHt13 => ?_)
        · (exact ⟨t1.cell 0 rfl, t1.cell 1 rfl, u1.cell 0 rfl, u1.cell 1 rfl⟩)
        clear hKt13 Kt13 hHeld
        have hHeld := hHt13
        clear hHt13
        try simp only [Act.put, List.setIfInBounds_toArray, List.set_cons_zero, List.set_cons_succ]
        refine wpAnyH_ready (rs := [13]) (by kernel_rfl) (by simp) ?_
        refine AllReadyH.cons (o := ?tko14) ?tkh14 (fun Kt14 hKt14 => ?_) AllReadyH.nil
        case tkh14 => (simp only [List.getElem?_toArray, List.getElem?_cons_succ, List.getElem?_cons_zero]; rfl)
        go_simp
        (go_at_call 21; refine (sameSelf NB un mc EB i fc NC cn cc EC cne cec U v1 (HV7.out.below hd1) hk1).mono ?_; rintro e v2 ⟨rfl, hd2⟩; have t2 := t1.later hd2; have u2 := u1.later hd2)
        refine hKt14.out _ _ ?_ (fun hHt14 => ?_)
        · (exact ⟨t2.cell 0 rfl, t2.cell 1 rfl, u2.cell 0 rfl, u2.cell 1 rfl⟩)
        clear hKt14 Kt14 hHeld
        have hHeld := hHt14
        clear hHt14
        try simp only [Act.put, List.setIfInBounds_toArray, List.set_cons_zero, List.set_cons_succ]
        refine wpAnyH_take (i := 14) (oi := ?tko15) (v := ?tkv15) ?tkh15 (by kernel_rfl) (by kernel_rfl) (by kernel_rfl) ?tkq15 ?tky15 hHeld ?tkr15
        case tkh15 => (simp only [List.getElem?_toArray, List.getElem?_cons_succ, List.getElem?_cons_zero]; rfl)
        case tkq15 => exact fun _ _ _ h => h
        case tky15 => exact Or.inl ⟨by rfl, by intro wSw hSw; (try dsimp only at hSw); go_simp; try with_reducible rfl⟩
        try simp only [Act.put, List.setIfInBounds_toArray, List.set_cons_zero, List.set_cons_succ]
        refine wpAnyH_take (i := 15) (oi := ?tko16) (v := ?tkv16) ?tkh16 (by kernel_rfl) (by kernel_rfl) (by kernel_rfl) ?tkq16 ?tky16 hHeld ?tkr16
        case tkh16 => (simp only [List.getElem?_toArray, List.getElem?_cons_succ, List.getElem?_cons_zero]; rfl)
        case tkq16 => exact fun _ _ _ h => h
        case tky16 => exact Or.inl ⟨by rfl, by intro wSw hSw; (try dsimp only at hSw); go_simp; try with_reducible rfl⟩
        try simp only [Act.put, List.setIfInBounds_toArray, List.set_cons_zero, List.set_cons_succ]
        refine wpAnyH_ready (rs := [16]) (by kernel_rfl) (by simp) ?_
        refine AllReadyH.cons (o := ?tko17) ?tkh17 (fun Kt17 hKt17 => ?_) AllReadyH.nil
        case tkh17 => (simp only [List.getElem?_toArray, List.getElem?_cons_succ, List.getElem?_cons_zero]; rfl)
        go_simp
        (go_at_call 14; refine (awakeL v2).mono ?_; rintro e v3 ⟨rfl, hd3⟩; have t3 := t2.later hd3; have u3 := u2.later hd3)
        refine hKt17.out _ _ ?_ (fun hHt17 => ?_)
        · (exact ⟨t3.cell 0 rfl, t3.cell 1 rfl, u3.cell 0 rfl, u3.cell 1 rfl⟩)
        clear hKt17 Kt17 hHeld
        have hHeld := hHt17
        clear hHt17
        try simp only [Act.put, List.setIfInBounds_toArray, List.set_cons_zero, List.set_cons_succ]
        refine wpAnyH_take (i := 17) (oi := ?tko18) (v := ?tkv18) ?tkh18 (by kernel_rfl) (by kernel_rfl) (by kernel_rfl) ?tkq18 ?tky18 hHeld ?tkr18
        case tkh18 => (simp only [List.getElem?_toArray, List.getElem?_cons_succ, List.getElem?_cons_zero]; rfl)
        case tkq18 => exact fun _ _ _ h => h
        case tky18 => exact Or.inl ⟨by rfl, by intro wSw hSw; (try dsimp only at hSw); go_simp; try with_reducible rfl⟩
        try simp only [Act.put, List.setIfInBounds_toArray, List.set_cons_zero, List.set_cons_succ]
        refine wpAnyH_take (i := 18) (oi := ?tko19) (v := ?tkv19) ?tkh19 (by kernel_rfl) (by kernel_rfl) (by kernel_rfl) ?tkq19 ?tky19 hHeld ?tkr19
        case tkh19 => (simp only [List.getElem?_toArray, List.getElem?_cons_succ, List.getElem?_cons_zero]; rfl)
        case tkq19 => exact fun _ _ _ h => h
        case tky19 => exact Or.inl ⟨by rfl, by intro wSw hSw; (try dsimp only at hSw); go_simp; try with_reducible rfl⟩
        try simp only [Act.put, List.setIfInBounds_toArray, List.set_cons_zero, List.set_cons_succ]
        refine wpAnyH_done (by kernel_rfl) ?_ _
        clear hHeld
        go_wp2
        go_ret
        have hd12 := HB7.out.trans (hd1.mono HB7.out.size)
        have hd13 := hd12.trans (hd2.mono hd12.size)
        exact ⟨rfl, hd13.trans (hd3.mono hd13.size)⟩
      · have HBX := Lib.hid hBr
        clear hEV hstop
        go_wp2_with fail
        obtain ⟨V, hV⟩ : ∃ V, V = wr.drew := ⟨_, rfl⟩
        have HBV := Lib.hid (show Below w6.heap.size w6 V by rw [hV]; exact HBX.out.drew)
        have HT7 := Lib.hid (HT6.out.later HBV.out)
        have HU7 := Lib.hid (HU6.out.later HBV.out)
        have HV7 := Lib.hid (HV6.out.below HBV.out)
        have HFC := Lib.hid (HCUT ▸ refCut NA nn nc EA ne ec T (i : Int) V (HO6.out.below HBV.out) ⟨by omega, by omega⟩)
        have HB7 := Lib.hid (HB6.out.trans (HBV.out.mono HB6.out.size))
        clear HBX HBV
        refine wp_region_held_drew (S := fun W => W.cell? ⟨g1, 0, none⟩ = some (.slice NA nn nc) ∧ W.cell? ⟨g1, 1, none⟩ = some (.slice EA ne ec) ∧ W.cell? ⟨g5, 0, none⟩ = some (.slice NB un mc) ∧ W.cell? ⟨g5, 1, none⟩ = some (.slice EB i fc)) (by kernel_rfl) (by rw [← hV]; exact ⟨HT7.out.cell 0 rfl, HT7.out.cell 1 rfl, HU7.out.cell 0 rfl, HU7.out.cell 1 rfl⟩) (fun hHeld => ?_)
        rw [← hV] at hHeld ⊢
        clear hV
        refine wpAnyH_take (i := 0) (oi := ?tko20) (v := ?tkv20) ?tkh20 (by kernel_rfl) (by kernel_rfl) (by kernel_rfl) ?tkq20 ?tky20 hHeld ?tkr20
        case tkh20 => (simp only [List.getElem?_toArray, List.getElem?_cons_zero]; rfl)
        case tkq20 => exact fun _ _ _ h => h
        case tky20 => exact Or.inl ⟨by rfl, by intro wSw hSw; (try dsimp only at hSw); go_simp; try with_reducible rfl⟩
        try simp only [Act.put, List.setIfInBounds_toArray, List.set_cons_zero, List.set_cons_succ]
        refine wpAnyH_take (i := 1) (oi := ?tko21) (v := ?tkv21) ?tkh21 (by kernel_rfl) (by kernel_rfl) (by kernel_rfl) ?tkq21 ?tky21 hHeld ?tkr21
        case tkh21 => (simp only [List.getElem?_toArray, List.getElem?_cons_succ, List.getElem?_cons_zero]; rfl)
        case tkq21 => exact fun _ _ _ h => h
        case tky21 => exact Or.inl ⟨by rfl, by intro wSw hSw; (try dsimp only at hSw); go_simp; try with_reducible rfl⟩
        try simp only [Act.put, List.setIfInBounds_toArray, List.set_cons_zero, List.set_cons_succ]
        refine wpAnyH_take (i := 2) (oi := ?tko22) (v := ?tkv22) ?tkh22 (by kernel_rfl) (by kernel_rfl) (by kernel_rfl) ?tkq22 ?tky22 hHeld ?tkr22
        case tkh22 => (simp only [List.getElem?_toArray, List.getElem?_cons_succ, List.getElem?_cons_zero]; rfl)
        case tkq22 => exact fun _ _ _ h => h
        case tky22 => exact Or.inl ⟨by rfl, by intro wSw hSw; (try dsimp only at hSw); go_simp; try with_reducible rfl⟩
        try simp only [Act.put, List.setIfInBounds_toArray, List.set_cons_zero, List.set_cons_succ]
        refine wpAnyH_take (i := 3) (oi := ?tko23) (v := ?tkv23) ?tkh23 (by kernel_rfl) (by kernel_rfl) (by kernel_rfl) ?tkq23 ?tky23 hHeld ?tkr23
        case tkh23 => (simp only [List.getElem?_toArray, List.getElem?_cons_succ, List.getElem?_cons_zero]; rfl)
        case tkq23 => exact fun _ _ _ h => h
        case tky23 => exact Or.inl ⟨by rfl, by intro wSw hSw; (try dsimp only at hSw); go_simp; try with_reducible rfl⟩
        try simp only [Act.put, List.setIfInBounds_toArray, List.set_cons_zero, List.set_cons_succ]
        refine wpAnyH_take (i := 4) (oi := ?tko24) (v := ?tkv24) ?tkh24 (by kernel_rfl) (by kernel_rfl) (by kernel_rfl) ?tkq24 ?tky24 hHeld ?tkr24
        case tkh24 => (simp only [List.getElem?_toArray, List.getElem?_cons_succ, List.getElem?_cons_zero]; rfl)
        case tkq24 => exact fun _ _ _ h => h
        case tky24 => exact Or.inl ⟨by rfl, by intro wSw hSw; (try dsimp only at hSw); go_simp; try with_reducible rfl⟩
        try simp only [Act.put, List.setIfInBounds_toArray, List.set_cons_zero, List.set_cons_succ]
        refine wpAnyH_take (i := 5) (oi := ?tko25) (v := ?tkv25) ?tkh25 (by kernel_rfl) (by kernel_rfl) (by kernel_rfl) ?tkq25 ?tky25 hHeld ?tkr25
        case tkh25 => (simp only [List.getElem?_toArray, List.getElem?_cons_succ, List.getElem?_cons_zero]; rfl)
        case tkq25 => exact fun _ _ _ h => h
        case tky25 => exact Or.inl ⟨by rfl, by intro wSw hSw; (try dsimp only at hSw); go_simp; try with_reducible rfl⟩
        try simp only [Act.put, List.setIfInBounds_toArray, List.set_cons_zero, List.set_cons_succ]
        refine wpAnyH_take (i := 6) (oi := ?tko26) (v := ?tkv26) ?tkh26 (by kernel_rfl) (by kernel_rfl) (by kernel_rfl) ?tkq26 ?tky26 hHeld ?tkr26
        case tkh26 => (simp only [List.getElem?_toArray, List.getElem?_cons_succ, List.getElem?_cons_zero]; rfl)
        case tkq26 => exact fun _ _ _ h => h
        case tky26 => exact Or.inl ⟨by rfl, by intro wSw hSw; (try dsimp only at hSw); go_simp; try with_reducible rfl⟩
        try simp only [Act.put, List.setIfInBounds_toArray, List.set_cons_zero, List.set_cons_succ]
        refine wpAnyH_take (i := 7) (oi := ?tko27) (v := ?tkv27) ?tkh27 (by kernel_rfl) (by kernel_rfl) (by kernel_rfl) ?tkq27 ?tky27 hHeld ?tkr27
        case tkh27 => (simp only [List.getElem?_toArray, List.getElem?_cons_succ, List.getElem?_cons_zero]; rfl)
        case tkq27 => exact fun _ _ _ h => h
        case tky27 => exact Or.inl ⟨by rfl, by intro wSw hSw; (try dsimp only at hSw); go_simp; try with_reducible rfl⟩
        try simp only [Act.put, List.setIfInBounds_toArray, List.set_cons_zero, List.set_cons_succ]
        refine wpAnyH_take (i := 8) (oi := ?tko28) (v := ?tkv28) ?tkh28 (by kernel_rfl) (by kernel_rfl) (by kernel_rfl) ?tkq28 ?tky28 hHeld ?tkr28
        case tkh28 => (simp only [List.getElem?_toArray, List.getElem?_cons_succ, List.getElem?_cons_zero]; rfl)
        case tkq28 => exact fun _ _ _ h => h
        case tky28 => exact Or.inl ⟨by rfl, by intro wSw hSw; (try dsimp only at hSw); go_simp; try with_reducible rfl⟩
        try simp only [Act.put, List.setIfInBounds_toArray, List.set_cons_zero, List.set_cons_succ]
        refine wpAnyH_take (i := 9) (oi := ?tko29) (v := ?tkv29) ?tkh29 (by kernel_rfl) (by kernel_rfl) (by kernel_rfl) ?tkq29 ?tky29 hHeld ?tkr29
        case tkh29 => (simp only [List.getElem?_toArray, List.getElem?_cons_succ, List.getElem?_cons_zero]; rfl)
        case tkq29 => exact fun _ _ _ h => h
        case tky29 => exact Or.inl ⟨by rfl, by intro wSw hSw; (try dsimp only at hSw); go_simp; try with_reducible rfl⟩
        try simp only [Act.put, List.setIfInBounds_toArray, List.set_cons_zero, List.set_cons_succ]
        refine wpAnyH_take (i := 10) (oi := ?tko30) (v := ?tkv30) ?tkh30 (by kernel_rfl) (by kernel_rfl) (by kernel_rfl) ?tkq30 ?tky30 hHeld ?tkr30
        case tkh30 => (simp only [List.getElem?_toArray, List.getElem?_cons_succ, List.getElem?_cons_zero]; rfl)
        case tkq30 => exact fun _ _ _ h => h
        case tky30 => exact Or.inl ⟨by rfl, by intro wSw hSw; (try dsimp only at hSw); go_simp; try with_reducible rfl⟩
        try simp only [Act.put, List.setIfInBounds_toArray, List.set_cons_zero, List.set_cons_succ]
        refine wpAnyH_take (i := 11) (oi := ?tko31) (v := ?tkv31) ?tkh31 (by kernel_rfl) (by kernel_rfl) (by kernel_rfl) ?tkq31 ?tky31 hHeld ?tkr31
        case tkh31 => (simp only [List.getElem?_toArray, List.getElem?_cons_succ, List.getElem?_cons_zero]; rfl)
        case tkq31 => exact fun _ _ _ h => h
        case tky31 => exact Or.inl ⟨by rfl, by intro wSw hSw; (try dsimp only at hSw); go_simp; try with_reducible rfl⟩
        try simp only [Act.put, List.setIfInBounds_toArray, List.set_cons_zero, List.set_cons_succ]
        refine wpAnyH_ready (rs := [12]) (by kernel_rfl) (by simp) ?_
        refine AllReadyH.cons (o := ?tko32) ?tkh32 (fun Kt32 hKt32 => ?_) AllReadyH.nil
        case tkh32 => (simp only [List.getElem?_toArray, List.getElem?_cons_succ, List.getElem?_cons_zero]; rfl)
        go_simp
        (go_at_call 22; refine HFC.out.mono ?_; rintro e v1 ⟨NC, cn, cc, EC, cne, cec, rfl, hk1, hd1⟩; have t1 := HT7.out.later hd1; have u1 := HU7.out.later hd1)
        refine hKt32.out _ _ ?_ (fun hHt32 => ?_)
        · (exact ⟨t1.cell 0 rfl, t1.cell 1 rfl, u1.cell 0 rfl, u1.cell 1 rfl⟩)
        clear hKt32 Kt32 hHeld
        have hHeld := hHt32
        clear hHt32
        try simp only [Act.put, List.setIfInBounds_toArray, List.set_cons_zero, List.set_cons_succ]
        refine wpAnyH_ready (rs := [13]) (by kernel_rfl) (by simp) ?_
        refine AllReadyH.cons (o := ?tko33) ?tkh33 (fun Kt33 hKt33 => ?_) AllReadyH.nil
        case tkh33 => (simp only [List.getElem?_toArray, List.getElem?_cons_succ, List.getElem?_cons_zero]; rfl)
        go_simp
        (go_at_call 21; refine (sameSelf NB un mc EB i fc NC cn cc EC cne cec U v1 (HV7.out.below hd1) hk1).mono ?_; rintro e v2 ⟨rfl, hd2⟩; have t2 := t1.later hd2; have u2 := u1.later hd2)
        refine hKt33.out _ _ ?_ (fun hHt33 => ?_)
        · (exact ⟨t2.cell 0 rfl, t2.cell 1 rfl, u2.cell 0 rfl, u2.cell 1 rfl⟩)
        clear hKt33 Kt33 hHeld
        have hHeld := hHt33
        clear hHt33
        try simp only [Act.put, List.setIfInBounds_toArray, List.set_cons_zero, List.set_cons_succ]
        refine wpAnyH_take (i := 14) (oi := ?tko34) (v := ?tkv34) ?tkh34 (by kernel_rfl) (by kernel_rfl) (by kernel_rfl) ?tkq34 ?tky34 hHeld ?tkr34
        case tkh34 => (simp only [List.getElem?_toArray, List.getElem?_cons_succ, List.getElem?_cons_zero]; rfl)
        case tkq34 => exact fun _ _ _ h => h
        case tky34 => exact Or.inl ⟨by rfl, by intro wSw hSw; (try dsimp only at hSw); go_simp; try with_reducible rfl⟩
        try simp only [Act.put, List.setIfInBounds_toArray, List.set_cons_zero, List.set_cons_succ]
        refine wpAnyH_take (i := 15) (oi := ?tko35) (v := ?tkv35) ?tkh35 (by kernel_rfl) (by kernel_rfl) (by kernel_rfl) ?tkq35 ?tky35 hHeld ?tkr35
        case tkh35 => (simp only [List.getElem?_toArray, List.getElem?_cons_succ, List.getElem?_cons_zero]; rfl)
        case tkq35 => exact fun _ _ _ h => h
        case tky35 => exact Or.inl ⟨by rfl, by intro wSw hSw; (try dsimp only at hSw); go_simp; try with_reducible rfl⟩
        try simp only [Act.put, List.setIfInBounds_toArray, List.set_cons_zero, List.set_cons_succ]
        refine wpAnyH_ready (rs := [16]) (by kernel_rfl) (by simp) ?_
        refine AllReadyH.cons (o := ?tko36) ?tkh36 (fun Kt36 hKt36 => ?_) AllReadyH.nil
        case tkh36 => (simp only [List.getElem?_toArray, List.getElem?_cons_succ, List.getElem?_cons_zero]; rfl)
        go_simp
        (go_at_call 14; refine (awakeL v2).mono ?_; rintro e v3 ⟨rfl, hd3⟩; have t3 := t2.later hd3; have u3 := u2.later hd3)
        refine hKt36.out _ _ ?_ (fun hHt36 => ?_)
        · (exact ⟨t3.cell 0 rfl, t3.cell 1 rfl, u3.cell 0 rfl, u3.cell 1 rfl⟩)
        clear hKt36 Kt36 hHeld
        have hHeld := hHt36
        clear hHt36
        try simp only [Act.put, List.setIfInBounds_toArray, List.set_cons_zero, List.set_cons_succ]
        refine wpAnyH_take (i := 17) (oi := ?tko37) (v := ?tkv37) ?tkh37 (by kernel_rfl) (by kernel_rfl) (by kernel_rfl) ?tkq37 ?tky37 hHeld ?tkr37
        case tkh37 => (simp only [List.getElem?_toArray, List.getElem?_cons_succ, List.getElem?_cons_zero]; rfl)
        case tkq37 => exact fun _ _ _ h => h
        case tky37 => exact Or.inl ⟨by rfl, by intro wSw hSw; (try dsimp only at hSw); go_simp; try with_reducible rfl⟩
        try simp only [Act.put, List.setIfInBounds_toArray, List.set_cons_zero, List.set_cons_succ]
        refine wpAnyH_take (i := 18) (oi := ?tko38) (v := ?tkv38) ?tkh38 (by kernel_rfl) (by kernel_rfl) (by kernel_rfl) ?tkq38 ?tky38 hHeld ?tkr38
        case tkh38 => (simp only [List.getElem?_toArray, List.getElem?_cons_succ, List.getElem?_cons_zero]; rfl)
        case tkq38 => exact fun _ _ _ h => h
        case tky38 => exact Or.inl ⟨by rfl, by intro wSw hSw; (try dsimp only at hSw); go_simp; try with_reducible rfl⟩
        try simp only [Act.put, List.setIfInBounds_toArray, List.set_cons_zero, List.set_cons_succ]
        refine wpAnyH_done (by kernel_rfl) ?_ _
        clear hHeld
        go_wp2
        go_ret
        have hd12 := HB7.out.trans (hd1.mono HB7.out.size)
        have hd13 := hd12.trans (hd2.mono hd12.size)
        exact ⟨rfl, hd13.trans (hd3.mono hd13.size)⟩
    · have hpq' : ((p : Int) == (q : Int)) = false := by simp; omega
      rw [if_neg hpq] at hEi
      subst hEi
      clear hpq
      by_cases hin : i < ne
      · obtain ⟨b', off, K, ck, rfl, c0, c1, hokk⟩ := Evs.kids hEV.out (k := i) (by rw [hTl]; exact hin)
        have hgt : p + 14 + (T.events.getD i noEv).ids.length > q := by have := hstop.out; omega
        have hmi := (may_ids HMAY.out (k := i) (by rw [hTl]; exact hin)).2
        obtain ⟨ev, hev⟩ : ∃ ev, T.events.getD i noEv = ev := ⟨_, rfl⟩
        rw [hev] at c0 c1 hokk hgt hmi
        obtain ⟨m3, hm3⟩ : ∃ m3, ev.ids.length = m3 := ⟨_, rfl⟩
        have hids := ids_count hmi
        rw [hm3] at c1 hgt hids
        have HBX := Lib.hid (hBr.alloc hBr.size (.cells #[.int .u64 ev.time, .slice K m3 ck] 39))
        have hx := Blk.new wr #[.int .u64 ev.time, .slice K m3 ck] 39 [.int .u64 ev.time, .slice K m3 ck] rfl
        have x1 := hx.cell 1 rfl
        have hgt' : (p : Int) + 14 + (m3 : Int) > (q : Int) := by omega
        have hm3b : (m3 : Int) ≤ 64 := by omega
        clear hev hm3 hokk hx hEV hstop hgt hids hmi
        go_wp2_with fail
        obtain ⟨V, hV⟩ : ∃ V, V = (wr.alloc (.cells #[.int .u64 ev.time, .slice K m3 ck] 39)).drew := ⟨_, rfl⟩
        have HBV := Lib.hid (show Below w6.heap.size w6 V by rw [hV]; exact HBX.out.drew)
        have HT7 := Lib.hid (HT6.out.later HBV.out)
        have HU7 := Lib.hid (HU6.out.later HBV.out)
        have HV7 := Lib.hid (HV6.out.below HBV.out)
        have HFC := Lib.hid (HCUT ▸ refCut NA nn nc (some ⟨b', off, none⟩) ne ec T (i : Int) V (HO6.out.below HBV.out) ⟨by omega, by omega⟩)
        have HB7 := Lib.hid (HB6.out.trans (HBV.out.mono HB6.out.size))
        clear HBX HBV
        refine wp_region_held_drew (S := fun W => W.cell? ⟨g1, 0, none⟩ = some (.slice NA nn nc) ∧ W.cell? ⟨g1, 1, none⟩ = some (.slice (some ⟨b', off, none⟩) ne ec) ∧ W.cell? ⟨g5, 0, none⟩ = some (.slice NB un mc) ∧ W.cell? ⟨g5, 1, none⟩ = some (.slice EB i fc)) (by kernel_rfl) (by rw [← hV]; exact ⟨HT7.out.cell 0 rfl, HT7.out.cell 1 rfl, HU7.out.cell 0 rfl, HU7.out.cell 1 rfl⟩) (fun hHeld => ?_)
        rw [← hV] at hHeld ⊢
        clear hV
        refine wpAnyH_take (i := 0) (oi := ?tko39) (v := ?tkv39) ?tkh39 (by kernel_rfl) (by kernel_rfl) (by kernel_rfl) ?tkq39 ?tky39 hHeld ?tkr39
        case tkh39 => (simp only [List.getElem?_toArray, List.getElem?_cons_zero]; rfl)
        case tkq39 => exact fun _ _ _ h => h
        case tky39 => exact Or.inl ⟨by rfl, by intro wSw hSw; (try dsimp only at hSw); go_simp; try with_reducible rfl⟩
        try simp only [Act.put, List.setIfInBounds_toArray, List.set_cons_zero, List.set_cons_succ]
        refine wpAnyH_take (i := 1) (oi := ?tko40) (v := ?tkv40) ?tkh40 (by kernel_rfl) (by kernel_rfl) (by kernel_rfl) ?tkq40 ?tky40 hHeld ?tkr40
        case tkh40 => (simp only [List.getElem?_toArray, List.getElem?_cons_succ, List.getElem?_cons_zero]; rfl)
        case tkq40 => exact fun _ _ _ h => h
        case tky40 => exact Or.inl ⟨by rfl, by intro wSw hSw; (try dsimp only at hSw); go_simp; try with_reducible rfl⟩
        try simp only [Act.put, List.setIfInBounds_toArray, List.set_cons_zero, List.set_cons_succ]
        refine wpAnyH_take (i := 2) (oi := ?tko41) (v := ?tkv41) ?tkh41 (by kernel_rfl) (by kernel_rfl) (by kernel_rfl) ?tkq41 ?tky41 hHeld ?tkr41
        case tkh41 => (simp only [List.getElem?_toArray, List.getElem?_cons_succ, List.getElem?_cons_zero]; rfl)
        case tkq41 => exact fun _ _ _ h => h
        case tky41 => exact Or.inl ⟨by rfl, by intro wSw hSw; (try dsimp only at hSw); go_simp; try with_reducible rfl⟩
        try simp only [Act.put, List.setIfInBounds_toArray, List.set_cons_zero, List.set_cons_succ]
        refine wpAnyH_take (i := 3) (oi := ?tko42) (v := ?tkv42) ?tkh42 (by kernel_rfl) (by kernel_rfl) (by kernel_rfl) ?tkq42 ?tky42 hHeld ?tkr42
        case tkh42 => (simp only [List.getElem?_toArray, List.getElem?_cons_succ, List.getElem?_cons_zero]; rfl)
        case tkq42 => exact fun _ _ _ h => h
        case tky42 => exact Or.inl ⟨by rfl, by intro wSw hSw; (try dsimp only at hSw); go_simp; try with_reducible rfl⟩
        try simp only [Act.put, List.setIfInBounds_toArray, List.set_cons_zero, List.set_cons_succ]
        refine wpAnyH_take (i := 4) (oi := ?tko43) (v := ?tkv43) ?tkh43 (by kernel_rfl) (by kernel_rfl) (by kernel_rfl) ?tkq43 ?tky43 hHeld ?tkr43
        case tkh43 => (simp only [List.getElem?_toArray, List.getElem?_cons_succ, List.getElem?_cons_zero]; rfl)
        case tkq43 => exact fun _ _ _ h => h
        case tky43 => exact Or.inl ⟨by rfl, by intro wSw hSw; (try dsimp only at hSw); go_simp; try with_reducible rfl⟩
        try simp only [Act.put, List.setIfInBounds_toArray, List.set_cons_zero, List.set_cons_succ]
        refine wpAnyH_take (i := 5) (oi := ?tko44) (v := ?tkv44) ?tkh44 (by kernel_rfl) (by kernel_rfl) (by kernel_rfl) ?tkq44 ?tky44 hHeld ?tkr44
        case tkh44 => (simp only [List.getElem?_toArray, List.getElem?_cons_succ, List.getElem?_cons_zero]; rfl)
        case tkq44 => exact fun _ _ _ h => h
        case tky44 => exact Or.inl ⟨by rfl, by intro wSw hSw; (try dsimp only at hSw); go_simp; try with_reducible rfl⟩
        try simp only [Act.put, List.setIfInBounds_toArray, List.set_cons_zero, List.set_cons_succ]
        refine wpAnyH_take (i := 6) (oi := ?tko45) (v := ?tkv45) ?tkh45 (by kernel_rfl) (by kernel_rfl) (by kernel_rfl) ?tkq45 ?tky45 hHeld ?tkr45
        case tkh45 => (simp only [List.getElem?_toArray, List.getElem?_cons_succ, List.getElem?_cons_zero]; rfl)
        case tkq45 => exact fun _ _ _ h => h
        case tky45 => exact Or.inl ⟨by rfl, by intro wSw hSw; (try dsimp only at hSw); go_simp; try with_reducible rfl⟩
        try simp only [Act.put, List.setIfInBounds_toArray, List.set_cons_zero, List.set_cons_succ]
        refine wpAnyH_take (i := 7) (oi := ?tko46) (v := ?tkv46) ?tkh46 (by kernel_rfl) (by kernel_rfl) (by kernel_rfl) ?tkq46 ?tky46 hHeld ?tkr46
        case tkh46 => (simp only [List.getElem?_toArray, List.getElem?_cons_succ, List.getElem?_cons_zero]; rfl)
        case tkq46 => exact fun _ _ _ h => h
        case tky46 => exact Or.inl ⟨by rfl, by intro wSw hSw; (try dsimp only at hSw); go_simp; try with_reducible rfl⟩
        try simp only [Act.put, List.setIfInBounds_toArray, List.set_cons_zero, List.set_cons_succ]
        refine wpAnyH_take (i := 8) (oi := ?tko47) (v := ?tkv47) ?tkh47 (by kernel_rfl) (by kernel_rfl) (by kernel_rfl) ?tkq47 ?tky47 hHeld ?tkr47
        case tkh47 => (simp only [List.getElem?_toArray, List.getElem?_cons_succ, List.getElem?_cons_zero]; rfl)
        case tkq47 => exact fun _ _ _ h => h
        case tky47 => exact Or.inl ⟨by rfl, by intro wSw hSw; (try dsimp only at hSw); go_simp; try with_reducible rfl⟩
        try simp only [Act.put, List.setIfInBounds_toArray, List.set_cons_zero, List.set_cons_succ]
        refine wpAnyH_take (i := 9) (oi := ?tko48) (v := ?tkv48) ?tkh48 (by kernel_rfl) (by kernel_rfl) (by kernel_rfl) ?tkq48 ?tky48 hHeld ?tkr48
        case tkh48 => (simp only [List.getElem?_toArray, List.getElem?_cons_succ, List.getElem?_cons_zero]; rfl)
        case tkq48 => exact fun _ _ _ h => h
        case tky48 => exact Or.inl ⟨by rfl, by intro wSw hSw; (try dsimp only at hSw); go_simp; try with_reducible rfl⟩
        try simp only [Act.put, List.setIfInBounds_toArray, List.set_cons_zero, List.set_cons_succ]
        refine wpAnyH_take (i := 10) (oi := ?tko49) (v := ?tkv49) ?tkh49 (by kernel_rfl) (by kernel_rfl) (by kernel_rfl) ?tkq49 ?tky49 hHeld ?tkr49
        case tkh49 => (simp only [List.getElem?_toArray, List.getElem?_cons_succ, List.getElem?_cons_zero]; rfl)
        case tkq49 => exact fun _ _ _ h => h
        case tky49 => exact Or.inl ⟨by rfl, by intro wSw hSw; (try dsimp only at hSw); go_simp; try with_reducible rfl⟩
        try simp only [Act.put, List.setIfInBounds_toArray, List.set_cons_zero, List.set_cons_succ]
        refine wpAnyH_take (i := 11) (oi := ?tko50) (v := ?tkv50) ?tkh50 (by kernel_rfl) (by kernel_rfl) (by kernel_rfl) ?tkq50 ?tky50 hHeld ?tkr50
        case tkh50 => (simp only [List.getElem?_toArray, List.getElem?_cons_succ, List.getElem?_cons_zero]; rfl)
        case tkq50 => exact fun _ _ _ h => h
        case tky50 => exact Or.inl ⟨by rfl, by intro wSw hSw; (try dsimp only at hSw); go_simp; try with_reducible rfl⟩
        try simp only [Act.put, List.setIfInBounds_toArray, List.set_cons_zero, List.set_cons_succ]
        refine wpAnyH_ready (rs := [12]) (by kernel_rfl) (by simp) ?_
        refine AllReadyH.cons (o := ?tko51) ?tkh51 (fun Kt51 hKt51 => ?_) AllReadyH.nil
        case tkh51 => (simp only [List.getElem?_toArray, List.getElem?_cons_succ, List.getElem?_cons_zero]; rfl)
        go_simp
        (go_at_call 22; refine HFC.out.mono ?_; rintro e v1 ⟨NC, cn, cc, EC, cne, cec, rfl, hk1, hd1⟩; have t1 := HT7.out.later hd1; have u1 := HU7.out.later hd1)
        refine hKt51.out _ _ ?_ (fun hHt51 => ?_)
        · (exact ⟨t1.cell 0 rfl, t1.cell 1 rfl, u1.cell 0 rfl, u1.cell 1 rfl⟩)
        clear hKt51 Kt51 hHeld
        have hHeld := hHt51
        clear hHt51
        try simp only [Act.put, List.setIfInBounds_toArray, List.set_cons_zero, List.set_cons_succ]
        refine wpAnyH_ready (rs := [13]) (by kernel_rfl) (by simp) ?_
        refine AllReadyH.cons (o := ?tko52) ?tkh52 (fun Kt52 hKt52 => ?_) AllReadyH.nil
        case tkh52 => (simp only [List.getElem?_toArray, List.getElem?_cons_succ, List.getElem?_cons_zero]; rfl)
        go_simp
        (go_at_call 21; refine (sameSelf NB un mc EB i fc NC cn cc EC cne cec U v1 (HV7.out.below hd1) hk1).mono ?_; rintro e v2 ⟨rfl, hd2⟩; have t2 := t1.later hd2; have u2 := u1.later hd2)
        refine hKt52.out _ _ ?_ (fun hHt52 => ?_)
        · (exact ⟨t2.cell 0 rfl, t2.cell 1 rfl, u2.cell 0 rfl, u2.cell 1 rfl⟩)
        clear hKt52 Kt52 hHeld
        have hHeld := hHt52
        clear hHt52
        try simp only [Act.put, List.setIfInBounds_toArray, List.set_cons_zero, List.set_cons_succ]
        refine wpAnyH_take (i := 14) (oi := ?tko53) (v := ?tkv53) ?tkh53 (by kernel_rfl) (by kernel_rfl) (by kernel_rfl) ?tkq53 ?tky53 hHeld ?tkr53
        case tkh53 => (simp only [List.getElem?_toArray, List.getElem?_cons_succ, List.getElem?_cons_zero]; rfl)
        case tkq53 => exact fun _ _ _ h => h
        case tky53 => exact Or.inl ⟨by rfl, by intro wSw hSw; (try dsimp only at hSw); go_simp; try with_reducible rfl⟩
        try simp only [Act.put, List.setIfInBounds_toArray, List.set_cons_zero, List.set_cons_succ]
        refine wpAnyH_take (i := 15) (oi := ?tko54) (v := ?tkv54) ?tkh54 (by kernel_rfl) (by kernel_rfl) (by kernel_rfl) ?tkq54 ?tky54 hHeld ?tkr54
        case tkh54 => (simp only [List.getElem?_toArray, List.getElem?_cons_succ, List.getElem?_cons_zero]; rfl)
        case tkq54 => exact fun _ _ _ h => h
        case tky54 => exact Or.inl ⟨by rfl, by intro wSw hSw; (try dsimp only at hSw); go_simp; try with_reducible rfl⟩
        try simp only [Act.put, List.setIfInBounds_toArray, List.set_cons_zero, List.set_cons_succ]
        refine wpAnyH_ready (rs := [16]) (by kernel_rfl) (by simp) ?_
        refine AllReadyH.cons (o := ?tko55) ?tkh55 (fun Kt55 hKt55 => ?_) AllReadyH.nil
        case tkh55 => (simp only [List.getElem?_toArray, List.getElem?_cons_succ, List.getElem?_cons_zero]; rfl)
        go_simp
        (go_at_call 14; refine (awakeL v2).mono ?_; rintro e v3 ⟨rfl, hd3⟩; have t3 := t2.later hd3; have u3 := u2.later hd3)
        refine hKt55.out _ _ ?_ (fun hHt55 => ?_)
        · (exact ⟨t3.cell 0 rfl, t3.cell 1 rfl, u3.cell 0 rfl, u3.cell 1 rfl⟩)
        clear hKt55 Kt55 hHeld
        have hHeld := hHt55
        clear hHt55
        try simp only [Act.put, List.setIfInBounds_toArray, List.set_cons_zero, List.set_cons_succ]
        refine wpAnyH_take (i := 17) (oi := ?tko56) (v := ?tkv56) ?tkh56 (by kernel_rfl) (by kernel_rfl) (by kernel_rfl) ?tkq56 ?tky56 hHeld ?tkr56
        case tkh56 => (simp only [List.getElem?_toArray, List.getElem?_cons_succ, List.getElem?_cons_zero]; rfl)
        case tkq56 => exact fun _ _ _ h => h
        case tky56 => exact Or.inl ⟨by rfl, by intro wSw hSw; (try dsimp only at hSw); go_simp; try with_reducible rfl⟩
        try simp only [Act.put, List.setIfInBounds_toArray, List.set_cons_zero, List.set_cons_succ]
        refine wpAnyH_take (i := 18) (oi := ?tko57) (v := ?tkv57) ?tkh57 (by kernel_rfl) (by kernel_rfl) (by kernel_rfl) ?tkq57 ?tky57 hHeld ?tkr57
        case tkh57 => (simp only [List.getElem?_toArray, List.getElem?_cons_succ, List.getElem?_cons_zero]; rfl)
        case tkq57 => exact fun _ _ _ h => h
        case tky57 => exact Or.inl ⟨by rfl, by intro wSw hSw; (try dsimp only at hSw); go_simp; try with_reducible rfl⟩
        try simp only [Act.put, List.setIfInBounds_toArray, List.set_cons_zero, List.set_cons_succ]
        refine wpAnyH_done (by kernel_rfl) ?_ _
        clear hHeld
        go_wp2
        go_ret
        have hd12 := HB7.out.trans (hd1.mono HB7.out.size)
        have hd13 := hd12.trans (hd2.mono hd12.size)
        exact ⟨rfl, hd13.trans (hd3.mono hd13.size)⟩
      · have HBX := Lib.hid hBr
        clear hEV hstop
        go_wp2_with fail
        obtain ⟨V, hV⟩ : ∃ V, V = wr.drew := ⟨_, rfl⟩
        have HBV := Lib.hid (show Below w6.heap.size w6 V by rw [hV]; exact HBX.out.drew)
        have HT7 := Lib.hid (HT6.out.later HBV.out)
        have HU7 := Lib.hid (HU6.out.later HBV.out)
        have HV7 := Lib.hid (HV6.out.below HBV.out)
        have HFC := Lib.hid (HCUT ▸ refCut NA nn nc EA ne ec T (i : Int) V (HO6.out.below HBV.out) ⟨by omega, by omega⟩)
        have HB7 := Lib.hid (HB6.out.trans (HBV.out.mono HB6.out.size))
        clear HBX HBV
        refine wp_region_held_drew (S := fun W => W.cell? ⟨g1, 0, none⟩ = some (.slice NA nn nc) ∧ W.cell? ⟨g1, 1, none⟩ = some (.slice EA ne ec) ∧ W.cell? ⟨g5, 0, none⟩ = some (.slice NB un mc) ∧ W.cell? ⟨g5, 1, none⟩ = some (.slice EB i fc)) (by kernel_rfl) (by rw [← hV]; exact ⟨HT7.out.cell 0 rfl, HT7.out.cell 1 rfl, HU7.out.cell 0 rfl, HU7.out.cell 1 rfl⟩) (fun hHeld => ?_)
        rw [← hV] at hHeld ⊢
        clear hV
        refine wpAnyH_take (i := 0) (oi := ?tko58) (v := ?tkv58) ?tkh58 (by kernel_rfl) (by kernel_rfl) (by kernel_rfl) ?tkq58 ?tky58 hHeld ?tkr58
        case tkh58 => (simp only [List.getElem?_toArray, List.getElem?_cons_zero]; rfl)
        case tkq58 => exact fun _ _ _ h => h
        case tky58 => exact Or.inl ⟨by rfl, by intro wSw hSw; (try dsimp only at hSw); go_simp; try with_reducible rfl⟩
        try simp only [Act.put, List.setIfInBounds_toArray, List.set_cons_zero, List.set_cons_succ]
        refine wpAnyH_take (i := 1) (oi := ?tko59) (v := ?tkv59) ?tkh59 (by kernel_rfl) (by kernel_rfl) (by kernel_rfl) ?tkq59 ?tky59 hHeld ?tkr59
        case tkh59 => (simp only [List.getElem?_toArray, List.getElem?_cons_succ, List.getElem?_cons_zero]; rfl)
        case tkq59 => exact fun _ _ _ h => h
        case tky59 => exact Or.inl ⟨by rfl, by intro wSw hSw; (try dsimp only at hSw); go_simp; try with_reducible rfl⟩
        try simp only [Act.put, List.setIfInBounds_toArray, List.set_cons_zero, List.set_cons_succ]
        refine wpAnyH_take (i := 2) (oi := ?tko60) (v := ?tkv60) ?tkh60 (by kernel_rfl) (by kernel_rfl) (by kernel_rfl) ?tkq60 ?tky60 hHeld ?tkr60
        case tkh60 => (simp only [List.getElem?_toArray, List.getElem?_cons_succ, List.getElem?_cons_zero]; rfl)
        case tkq60 => exact fun _ _ _ h => h
        case tky60 => exact Or.inl ⟨by rfl, by intro wSw hSw; (try dsimp only at hSw); go_simp; try with_reducible rfl⟩
        try simp only [Act.put, List.setIfInBounds_toArray, List.set_cons_zero, List.set_cons_succ]
        refine wpAnyH_take (i := 3) (oi := ?tko61) (v := ?tkv61) ?tkh61 (by kernel_rfl) (by kernel_rfl) (by kernel_rfl) ?tkq61 ?tky61 hHeld ?tkr61
        case tkh61 => (simp only [List.getElem?_toArray, List.getElem?_cons_succ, List.getElem?_cons_zero]; rfl)
        case tkq61 => exact fun _ _ _ h => h
        case tky61 => exact Or.inl ⟨by rfl, by intro wSw hSw; (try dsimp only at hSw); go_simp; try with_reducible rfl⟩
        try simp only [Act.put, List.setIfInBounds_toArray, List.set_cons_zero, List.set_cons_succ]
        refine wpAnyH_take (i := 4) (oi := ?tko62) (v := ?tkv62) ?tkh62 (by kernel_rfl) (by kernel_rfl) (by kernel_rfl) ?tkq62 ?tky62 hHeld ?tkr62
        case tkh62 => (simp only [List.getElem?_toArray, List.getElem?_cons_succ, List.getElem?_cons_zero]; rfl)
        case tkq62 => exact fun _ _ _ h => h
        case tky62 => exact Or.inl ⟨by rfl, by intro wSw hSw; (try dsimp only at hSw); go_simp; try with_reducible rfl⟩
        try simp only [Act.put, List.setIfInBounds_toArray, List.set_cons_zero, List.set_cons_succ]
        refine wpAnyH_take (i := 5) (oi := ?tko63) (v := ?tkv63) ?tkh63 (by kernel_rfl) (by kernel_rfl) (by kernel_rfl) ?tkq63 ?tky63 hHeld ?tkr63
        case tkh63 => (simp only [List.getElem?_toArray, List.getElem?_cons_succ, List.getElem?_cons_zero]; rfl)
        case tkq63 => exact fun _ _ _ h => h
        case tky63 => exact Or.inl ⟨by rfl, by intro wSw hSw; (try dsimp only at hSw); go_simp; try with_reducible rfl⟩
        try simp only [Act.put, List.setIfInBounds_toArray, List.set_cons_zero, List.set_cons_succ]
        refine wpAnyH_take (i := 6) (oi := ?tko64) (v := ?tkv64) ?tkh64 (by kernel_rfl) (by kernel_rfl) (by kernel_rfl) ?tkq64 ?tky64 hHeld ?tkr64
        case tkh64 => (simp only [List.getElem?_toArray, List.getElem?_cons_succ, List.getElem?_cons_zero]; rfl)
        case tkq64 => exact fun _ _ _ h => h
        case tky64 => exact Or.inl ⟨by rfl, by intro wSw hSw; (try dsimp only at hSw); go_simp; try with_reducible rfl⟩
        try simp only [Act.put, List.setIfInBounds_toArray, List.set_cons_zero, List.set_cons_succ]
        refine wpAnyH_take (i := 7) (oi := ?tko65) (v := ?tkv65) ?tkh65 (by kernel_rfl) (by kernel_rfl) (by kernel_rfl) ?tkq65 ?tky65 hHeld ?tkr65
        case tkh65 => (simp only [List.getElem?_toArray, List.getElem?_cons_succ, List.getElem?_cons_zero]; rfl)
        case tkq65 => exact fun _ _ _ h => h
        case tky65 => exact Or.inl ⟨by rfl, by intro wSw hSw; (try dsimp only at hSw); go_simp; try with_reducible rfl⟩
        try simp only [Act.put, List.setIfInBounds_toArray, List.set_cons_zero, List.set_cons_succ]
        refine wpAnyH_take (i := 8) (oi := ?tko66) (v := ?tkv66) ?tkh66 (by kernel_rfl) (by kernel_rfl) (by kernel_rfl) ?tkq66 ?tky66 hHeld ?tkr66
        case tkh66 => (simp only [List.getElem?_toArray, List.getElem?_cons_succ, List.getElem?_cons_zero]; rfl)
        case tkq66 => exact fun _ _ _ h => h
        case tky66 => exact Or.inl ⟨by rfl, by intro wSw hSw; (try dsimp only at hSw); go_simp; try with_reducible rfl⟩
        try simp only [Act.put, List.setIfInBounds_toArray, List.set_cons_zero, List.set_cons_succ]
        refine wpAnyH_take (i := 9) (oi := ?tko67) (v := ?tkv67) ?tkh67 (by kernel_rfl) (by kernel_rfl) (by kernel_rfl) ?tkq67 ?tky67 hHeld ?tkr67
        case tkh67 => (simp only [List.getElem?_toArray, List.getElem?_cons_succ, List.getElem?_cons_zero]; rfl)
        case tkq67 => exact fun _ _ _ h => h
        case tky67 => exact Or.inl ⟨by rfl, by intro wSw hSw; (try dsimp only at hSw); go_simp; try with_reducible rfl⟩
        try simp only [Act.put, List.setIfInBounds_toArray, List.set_cons_zero, List.set_cons_succ]
        refine wpAnyH_take (i := 10) (oi := ?tko68) (v := ?tkv68) ?tkh68 (by kernel_rfl) (by kernel_rfl) (by kernel_rfl) ?tkq68 ?tky68 hHeld ?tkr68
        case tkh68 => (simp only [List.getElem?_toArray, List.getElem?_cons_succ, List.getElem?_cons_zero]; rfl)
        case tkq68 => exact fun _ _ _ h => h
        case tky68 => exact Or.inl ⟨by rfl, by intro wSw hSw; (try dsimp only at hSw); go_simp; try with_reducible rfl⟩
        try simp only [Act.put, List.setIfInBounds_toArray, List.set_cons_zero, List.set_cons_succ]
        refine wpAnyH_take (i := 11) (oi := ?tko69) (v := ?tkv69) ?tkh69 (by kernel_rfl) (by kernel_rfl) (by kernel_rfl) ?tkq69 ?tky69 hHeld ?tkr69
        case tkh69 => (simp only [List.getElem?_toArray, List.getElem?_cons_succ, List.getElem?_cons_zero]; rfl)
        case tkq69 => exact fun _ _ _ h => h
        case tky69 => exact Or.inl ⟨by rfl, by intro wSw hSw; (try dsimp only at hSw); go_simp; try with_reducible rfl⟩
        try simp only [Act.put, List.setIfInBounds_toArray, List.set_cons_zero, List.set_cons_succ]
        refine wpAnyH_ready (rs := [12]) (by kernel_rfl) (by simp) ?_
        refine AllReadyH.cons (o := ?tko70) ?tkh70 (fun Kt70 hKt70 => ?_) AllReadyH.nil
        case tkh70 => (simp only [List.getElem?_toArray, List.getElem?_cons_succ, List.getElem?_cons_zero]; rfl)
        go_simp
        (go_at_call 22; refine HFC.out.mono ?_; rintro e v1 ⟨NC, cn, cc, EC, cne, cec, rfl, hk1, hd1⟩; have t1 := HT7.out.later hd1; have u1 := HU7.out.later hd1)
        refine hKt70.out _ _ ?_ (fun hHt70 => ?_)
        · (exact ⟨t1.cell 0 rfl, t1.cell 1 rfl, u1.cell 0 rfl, u1.cell 1 rfl⟩)
        clear hKt70 Kt70 hHeld
        have hHeld := hHt70
        clear hHt70
        try simp only [Act.put, List.setIfInBounds_toArray, List.set_cons_zero, List.set_cons_succ]
        refine wpAnyH_ready (rs := [13]) (by kernel_rfl) (by simp) ?_
        refine AllReadyH.cons (o := ?tko71) ?tkh71 (fun Kt71 hKt71 => ?_) AllReadyH.nil
        case tkh71 => (simp only [List.getElem?_toArray, List.getElem?_cons_succ, List.getElem?_cons_zero]; rfl)
        go_simp
        (go_at_call 21; refine (sameSelf NB un mc EB i fc NC cn cc EC cne cec U v1 (HV7.out.below hd1) hk1).mono ?_; rintro e v2 ⟨rfl, hd2⟩; have t2 := t1.later hd2; have u2 := u1.later hd2)
        refine hKt71.out _ _ ?_ (fun hHt71 => ?_)
        · (exact ⟨t2.cell 0 rfl, t2.cell 1 rfl, u2.cell 0 rfl, u2.cell 1 rfl⟩)
        clear hKt71 Kt71 hHeld
        have hHeld := hHt71
        clear hHt71
        try simp only [Act.put, List.setIfInBounds_toArray, List.set_cons_zero, List.set_cons_succ]
        refine wpAnyH_take (i := 14) (oi := ?tko72) (v := ?tkv72) ?tkh72 (by kernel_rfl) (by kernel_rfl) (by kernel_rfl) ?tkq72 ?tky72 hHeld ?tkr72
        case tkh72 => (simp only [List.getElem?_toArray, List.getElem?_cons_succ, List.getElem?_cons_zero]; rfl)
        case tkq72 => exact fun _ _ _ h => h
        case tky72 => exact Or.inl ⟨by rfl, by intro wSw hSw; (try dsimp only at hSw); go_simp; try with_reducible rfl⟩
        try simp only [Act.put, List.setIfInBounds_toArray, List.set_cons_zero, List.set_cons_succ]
        refine wpAnyH_take (i := 15) (oi := ?tko73) (v := ?tkv73) ?tkh73 (by kernel_rfl) (by kernel_rfl) (by kernel_rfl) ?tkq73 ?tky73 hHeld ?tkr73
        case tkh73 => (simp only [List.getElem?_toArray, List.getElem?_cons_succ, List.getElem?_cons_zero]; rfl)
        case tkq73 => exact fun _ _ _ h => h
        case tky73 => exact Or.inl ⟨by rfl, by intro wSw hSw; (try dsimp only at hSw); go_simp; try with_reducible rfl⟩
        try simp only [Act.put, List.setIfInBounds_toArray, List.set_cons_zero, List.set_cons_succ]
        refine wpAnyH_ready (rs := [16]) (by kernel_rfl) (by simp) ?_
        refine AllReadyH.cons (o := ?tko74) ?tkh74 (fun Kt74 hKt74 => ?_) AllReadyH.nil
        case tkh74 => (simp only [List.getElem?_toArray, List.getElem?_cons_succ, List.getElem?_cons_zero]; rfl)
        go_simp
        (go_at_call 14; refine (awakeL v2).mono ?_; rintro e v3 ⟨rfl, hd3⟩; have t3 := t2.later hd3; have u3 := u2.later hd3)
        refine hKt74.out _ _ ?_ (fun hHt74 => ?_)
        · (exact ⟨t3.cell 0 rfl, t3.cell 1 rfl, u3.cell 0 rfl, u3.cell 1 rfl⟩)
        clear hKt74 Kt74 hHeld
        have hHeld := hHt74
        clear hHt74
        try simp only [Act.put, List.setIfInBounds_toArray, List.set_cons_zero, List.set_cons_succ]
        refine wpAnyH_take (i := 17) (oi := ?tko75) (v := ?tkv75) ?tkh75 (by kernel_rfl) (by kernel_rfl) (by kernel_rfl) ?tkq75 ?tky75 hHeld ?tkr75
        case tkh75 => (simp only [List.getElem?_toArray, List.getElem?_cons_succ, List.getElem?_cons_zero]; rfl)
        case tkq75 => exact fun _ _ _ h => h
        case tky75 => exact Or.inl ⟨by rfl, by intro wSw hSw; (try dsimp only at hSw); go_simp; try with_reducible rfl⟩
        try simp only [Act.put, List.setIfInBounds_toArray, List.set_cons_zero, List.set_cons_succ]
        refine wpAnyH_take (i := 18) (oi := ?tko76) (v := ?tkv76) ?tkh76 (by kernel_rfl) (by kernel_rfl) (by kernel_rfl) ?tkq76 ?tky76 hHeld ?tkr76
        case tkh76 => (simp only [List.getElem?_toArray, List.getElem?_cons_succ, List.getElem?_cons_zero]; rfl)
        case tkq76 => exact fun _ _ _ h => h
        case tky76 => exact Or.inl ⟨by rfl, by intro wSw hSw; (try dsimp only at hSw); go_simp; try with_reducible rfl⟩
        try simp only [Act.put, List.setIfInBounds_toArray, List.set_cons_zero, List.set_cons_succ]
        refine wpAnyH_done (by kernel_rfl) ?_ _
        clear hHeld
        go_wp2
        go_ret
        have hd12 := HB7.out.trans (hd1.mono HB7.out.size)
        have hd13 := hd12.trans (hd2.mono hd12.size)
        exact ⟨rfl, hd13.trans (hd3.mono hd13.size)⟩
end Go.Proofs.Ytgfifjcecpllbaa.Log
