/-
  The walk of the law RecordTells (stage 9). By an AI agent.
-/
import Derived.Test.YtpcahfjejbiocaaRecordLaw5
namespace Go.Proofs.Ytpcahfjejbiocaa.Record
open Go.RowKit Go.Proofs.Ytpcahfjejbiocaa.Ints Go.Proofs.Ytpcahfjejbiocaa.Mem Go.Proofs.Ytpcahfjejbiocaa.SumMath Go.Proofs.Ytpcahfjejbiocaa.SumWalks Go.Proofs.Ytpcahfjejbiocaa.Trace

/-- Get where something is wrong. -/
theorem get_err (A : Option Addr) (n c : Nat) (zs : List Int) (p : Int) (w : World) (f : Nat) (F : Int) (hF : (f : Int) = F) (hnc : n ≤ c) (hc : c ≤ maxLen) (h : Rd .u8 w A n zs) (hf : errR zs (propsR p) = f) (hne : f ≠ 0) :
    Calls Try.prog 15 #[.slice A n c, .int .i64 p] w fun e w' => ∃ K c, e = .returned (.tuple #[.agg #[.int .u64 0, .slice K 0 c], .int .i64 0, .int .i64 F]) ∧ Below w.heap.size w w' := by
  refine (landGet A n c zs p w hnc hc h).mono fun e w' hg => ?_
  have e1 : getE zs p = noEv := by unfold getE; rw [hf, if_neg hne]
  have e2 : getN zs p = 0 := by unfold getN; rw [hf, if_neg hne]
  unfold GotGet at hg
  rw [e1, e2, hf, hF] at hg
  obtain ⟨K, k, he, -, hb, -⟩ := hg
  exact ⟨K, k, he, hb⟩

set_option maxHeartbeats 16000000 in
set_option maxRecDepth 100000 in
theorem lawTells (t : Int) (b : Nat) (a x : Nat) (w : World) (ht : (Lit.int .u64 t).wf = true) (hb : b < 18446744073709551616) (ha : a ≤ 255) (hx : x ≤ 255) :
    Calls Try.prog 8 #[.int .u64 t, .int .u64 (b : Int), .int .u8 (a : Int), .int .u8 (x : Int)] w fun e w' => e = .returned (.bool true) ∧ Below w.heap.size w w' := by
  have q63 : maxLen = 9223372036854775807 := rfl
  obtain ⟨i0, hi, hz0, hz1, hz2⟩ := info_parts info5'
  have FE := lawEvent t b (b : Int) rfl w ht hb
  obtain ⟨v, hv⟩ : ∃ v, evB t b = v := ⟨_, rfl⟩
  have hok : idsOk v.ids 64 = true := by rw [← hv]; exact bits_ok b
  have HT := Lib.hid (show 0 ≤ v.time ∧ v.time ≤ 18446744073709551615 by rw [← hv]; exact wf_u64 ht)
  have hcnt := ids_count hok
  rw [hv] at FE
  have HE := Lib.hid FE
  have HOK := Lib.hid hok
  obtain ⟨m, hm⟩ : ∃ m, v.ids.length = m := ⟨_, rfl⟩
  rw [hm] at hcnt
  have hm64 : m ≤ 64 := by omega
  have HM := Lib.hid hm
  clear FE hv hok hm hcnt
  go_enter Try.func8, Try.ntmps8
  go_wp2_with fail
  refine HE.out.mono ?_
  rintro e w1 ⟨K, k, rfl, hk, hB1, -⟩
  have b1 := Blk.new w1 #[.int .u64 v.time, .slice K v.ids.length k] 26 [.int .u64 v.time, .slice K v.ids.length k] rfl
  have hal := (Below.refl _ w1).alloc (Nat.le_refl _) (.cells #[.int .u64 v.time, .slice K v.ids.length k] 26)
  have hk1 := hk.below hal
  have hB2 := hB1.trans (hal.mono hB1.size)
  have FP := put_nil K k _ hk1 HOK.out
  rw [HM.out] at FP b1 hB2 hk1 ⊢
  have HP := Lib.hid FP
  have B1 := Lib.hid b1
  have HB1 := Lib.hid hB2
  have HK1 := Lib.hid hk1
  clear FP hk hB1 HE b1 hal hk1 hB2
  go_wp2_with fail
  refine HP.out.mono ?_
  rintro e V ⟨g, c1, rfl, hr, hc1, hm1, hg, hown, hB2⟩
  have HR := Lib.hid hr
  have B0 := Lib.hid (B1.out.later hB2)
  have HB0 := Lib.hid (HB1.out.trans (hB2.mono HB1.out.size))
  have HK := Lib.hid (HK1.out.below hB2).2.1
  have n14 : ¬ ((14 : Int) + (m : Int) < 14) := by omega
  clear hr hown hB2 HP B1 HB1 HK1
  go_wp2_with fail
  go_loopw [37] (fun i wr => ∃ (j : Nat), j ≤ 14 + m ∧ i = .int .i64 j ∧ Below V.heap.size V wr) (fun i _ => 14 + m - (intOf i).toNat)
  case atStart => exact ⟨0, Nat.zero_le _, rfl, Below.refl _ _⟩
  case round =>
    obtain ⟨j, hj, rfl, hBr⟩ := hrel
    have HBR := Lib.hid hBr
    by_cases hjn : j < 14 + m
    · have hlen : j < (recR v).length := by rw [rec_len, HM.out]; exact hjn
      have hj2 : (j : Int) < 14 + (m : Int) := by omega
      have hj3 : (j : Int) ≤ (c1 : Int) := by omega
      by_cases hj0 : j = 0
      · subst hj0
        have FG := get_err (some ⟨g, 0, none⟩) 0 c1 ((recR v).take 0) 64 wr 13 13 rfl (by omega) hm1 ((HR.out.below hBr).take (m := 0) (by omega)) (by rw [front_err HOK.out hlen]; rfl) (by decide)
        have HG := Lib.hid FG
        clear FG hBr
        go_wp2_with fail
        refine HG.out.mono ?_
        rintro e w4 ⟨K4, k4, rfl, hB4⟩
        have HB4 := Lib.hid (HBR.out.trans (hB4.mono HBR.out.size))
        clear hB4
        go_wp2
        go_roundw
        case rel => exact ⟨1, by omega, by go_num, HB4.out.alloc HB4.out.size _⟩
        case measure => simp [intOf]
      · have FG := get_err (some ⟨g, 0, none⟩) j c1 ((recR v).take j) 64 wr 7 7 rfl (by omega) hm1 ((HR.out.below hBr).take (m := j) (by omega)) (by rw [front_err HOK.out hlen, if_neg hj0]) (by decide)
        have HG := Lib.hid FG
        have hj4 : ((j : Int) == 0) = false := by simp; omega
        have hj5 : decide ((j : Int) > 0) = true := by simp; omega
        clear FG hBr hlen
        go_wp2_with fail
        refine HG.out.mono ?_
        rintro e w4 ⟨K4, k4, rfl, hB4⟩
        have HB4 := Lib.hid (HBR.out.trans (hB4.mono HBR.out.size))
        clear hB4
        go_wp2
        go_roundw
        case rel => exact ⟨j + 1, by omega, by go_num, HB4.out.alloc HB4.out.size _⟩
        case measure => simp [intOf]; omega
    · obtain rfl : j = 14 + m := by omega
      clear hjn hj n14
      by_cases hx0 : x = 0
      · subst hx0
        clear hBr
        by_cases hm0 : m = 0
        · subst hm0
          have y0 := (B0.out.later HBR.out).cell 1 rfl
          go_wp2_with fail
          refine (awake wr).mono ?_
          rintro e w7 ⟨rfl, hB8⟩
          go_wp2
          go_ret
          exact ⟨rfl, (HB0.out.trans (HBR.out.mono HB0.out.size)).trans (hB8.mono (Nat.le_trans HB0.out.size HBR.out.size))⟩
        · obtain ⟨q, rfl⟩ : ∃ q, m = q + 1 := ⟨m - 1, by omega⟩
          have y1 := (B0.out.later HBR.out).cell 1 rfl
          have FG := get_err (some ⟨g, 0, none⟩) (14 + (q + 1)) c1 (recR v) (q : Int) wr 2 2 rfl hc1 hm1 (HR.out.below HBR.out) (few_err HOK.out (by omega) (by rw [HM.out]; omega)) (by decide)
          have HG := Lib.hid FG
          clear FG
          have hq0 : (0 : Int) < (q : Int) + 1 := by omega
          go_wp2_with fail
          refine HG.out.mono ?_
          rintro e w8 ⟨K8, k8, rfl, hB8⟩
          have hal8 := (Below.refl _ w8).alloc (Nat.le_refl _) (.cells #[.int .u64 0, .slice K8 0 k8] 26)
          have HB8 := Lib.hid (HBR.out.trans ((hB8.trans (hal8.mono hB8.size)).mono HBR.out.size))
          clear hB8 HG y1
          have y2 := (B0.out.later HB8.out).cell 1 rfl
          obtain ⟨bk, offk, rfl, hck⟩ := (HK.out.below HB8.out).cell (by rw [HM.out]; omega)
          have x2 := hck q (by rw [HM.out]; omega)
          obtain ⟨L, hL⟩ : ∃ L, v.ids[q]?.getD 0 = L := ⟨_, rfl⟩
          have hgd : v.ids.getD q 0 = L := by rw [← hL]; simp [List.getD]
          have hri := ids_rise HOK.out q (by rw [HM.out]; omega)
          have hlt := (ids_bytes HOK.out (v.ids.getD q 0) (by rw [show v.ids.getD q 0 = v.ids[q]'(by rw [HM.out]; omega) by simp [List.getD, show q < v.ids.length by rw [HM.out]; omega]]; exact List.getElem_mem _)).2
          rw [hgd] at hri hlt
          rw [hL] at x2
          have HGD := Lib.hid hgd
          clear hck hL hgd
          by_cases hlast : L = (q : Int)
          · have FG := get_err (some ⟨g, 0, none⟩) (14 + (q + 1)) c1 (recR v) L (w8.alloc (.cells #[.int .u64 0, .slice K8 0 k8] 26)) 2 2 rfl hc1 hm1 (HR.out.below HB8.out) (few_err HOK.out (by omega) (by rw [HM.out]; omega)) (by decide)
            have HG := Lib.hid FG
            have g1 : (L == (q : Int)) = true := by simp; omega
            have g2 : decide (L ≥ (q : Int) + 1) = false := by simp; omega
            clear FG hlast
            go_wp2_with fail
            refine HG.out.mono ?_
            rintro e w9 ⟨K9, k9, rfl, hB9⟩
            have hal9 := (Below.refl _ w9).alloc (Nat.le_refl _) (.cells #[.int .u64 0, .slice K9 0 k9] 26)
            have HB9 := Lib.hid (HB8.out.trans ((hB9.trans (hal9.mono hB9.size)).mono HB8.out.size))
            clear hB9 HG hal9 hal8
            go_wp2_with fail
            refine (awake (w9.alloc (.cells #[.int .u64 0, .slice K9 0 k9] 26))).mono ?_
            rintro e w7 ⟨rfl, hB10⟩
            go_wp2
            go_ret
            exact ⟨rfl, (HB0.out.trans (HB9.out.mono HB0.out.size)).trans (hB10.mono (Nat.le_trans HB0.out.size HB9.out.size))⟩
          · have FG := get_err (some ⟨g, 0, none⟩) (14 + (q + 1)) c1 (recR v) L (w8.alloc (.cells #[.int .u64 0, .slice K8 0 k8] 26)) 9 9 rfl hc1 hm1 (HR.out.below HB8.out) (last_err HOK.out HT.out.1 HT.out.2 (by rw [HM.out]; omega) (by rw [HM.out, show q + 1 - 1 = q by omega]; exact HGD.out) (by rw [HM.out]; omega) hlt) (by decide)
            have HG := Lib.hid FG
            have g1 : (L == (q : Int)) = false := by simp; omega
            have g2 : decide (L ≥ (q : Int) + 1) = true := by simp; omega
            clear FG hlast
            go_wp2_with fail
            refine HG.out.mono ?_
            rintro e w9 ⟨K9, k9, rfl, hB9⟩
            have hal9 := (Below.refl _ w9).alloc (Nat.le_refl _) (.cells #[.int .u64 0, .slice K9 0 k9] 26)
            have HB9 := Lib.hid (HB8.out.trans ((hB9.trans (hal9.mono hB9.size)).mono HB8.out.size))
            clear hB9 HG hal9 hal8
            go_wp2_with fail
            refine (awake (w9.alloc (.cells #[.int .u64 0, .slice K9 0 k9] 26))).mono ?_
            rintro e w7 ⟨rfl, hB10⟩
            go_wp2
            go_ret
            exact ⟨rfl, (HB0.out.trans (HB9.out.mono HB0.out.size)).trans (hB10.mono (Nat.le_trans HB0.out.size HB9.out.size))⟩
      · have hxne : ((x : Int) == 0) = false := by simp; omega
        have hrV := HR.out.below hBr
        obtain ⟨ix, hix, hixl⟩ : ∃ i : Nat, (a : Int) % (12 + (m : Int)) = (i : Int) ∧ 2 + i < 14 + m := ⟨a % (12 + m), by rw [Int.natCast_emod]; rfl, by have := Nat.mod_lt a (show 0 < 12 + m by omega); omega⟩
        clear hBr
        have hsz := HBR.out.size
        have hix2 : (a : Int) % (14 + (m : Int) - 2) = (ix : Int) := by rw [show 14 + (m : Int) - 2 = 12 + (m : Int) by omega]; exact hix
        have hix3 : (2 : Int) + (ix : Int) < 14 + (m : Int) := by omega
        have hix4 : ¬ (14 + (m : Int) - 2 = 0) := by omega
        have hix5 : ((14 + (m : Int) - 2) == 0) = false := by simp; omega
        go_wp2_with (at_builtin; refine wpList_append_ints rfl _ _ 22 rfl .u8 wr.heap.size 5 i0 1 Try.underlying22 hi hz0 hz1 hz2 (.slice (some ⟨wr.heap.size, 0, none⟩) 0 0) 0 [] rfl (World.ownsRow_made wr #[] 0 (Nat.le_refl _) (by decide) rfl) _ _ _ (recR v) rfl (hrV.alloc _) (by omega) (by omega) (by simp) ?_; intro v5 w5 hown5 hgr5; simp only [Nat.zero_add, List.nil_append] at hown5; obtain ⟨g5, c5, rfl, hgb5, hglt5, hcap5, hcapm5⟩ := own_form hown5 (by omega); have hcell5 := own_cell hown5 hixl; have hfz5 := hown5.frozenAt (2 + ix))
        obtain ⟨z, hz⟩ : ∃ z, (recR v)[2 + ix]?.getD 0 = z := ⟨_, rfl⟩
        have hzb := hrV.u8 (2 + ix) hixl
        rw [hz] at hzb ⊢
        have hxo := xor_u8 z (x : Int) hzb ⟨by omega, by omega⟩
        obtain ⟨y, hy⟩ : ∃ y, bits .xor .u8 z (x : Int) = y := ⟨_, rfl⟩
        rw [hy] at hxo ⊢
        have hB5 : Below wr.heap.size wr w5 := ((Below.refl _ _).alloc (Nat.le_refl _) _).grown hgr5 (by simp) (by rintro q hq; simp [Value.ownBlock] at hq; omega)
        have hB6 := hB5.setCell (p := ⟨g5, 2 + ix, none⟩) hgb5 (.int .u8 y)
        have hrc : Rd .u8 (w5.setCell ⟨g5, 2 + ix, none⟩ (.int .u8 y)) (some ⟨g5, 0, none⟩) (14 + m) ((recR v).set (2 + ix) y) := Rd.own (own_set hown5 (2 + ix) y) (wf_set hrV.all (u8_wf hxo.1))
        have HB6 := Lib.hid (HBR.out.trans (hB6.mono HBR.out.size))
        have hxx : y ≠ (recR v)[2 + ix]?.getD 0 := by rw [hz]; intro e; exact hx0 (by have := hxo.2.1 e; omega)
        have FG := get_err (some ⟨g5, 0, none⟩) (14 + m) c5 ((recR v).set (2 + ix) y) 64 _ 6 6 rfl hcap5 hcapm5 hrc (changed_err HOK.out (by omega) (by rw [rec_len, HM.out]; exact hixl) hxo.1 hxx) (by decide)
        have HG := Lib.hid FG
        obtain ⟨W6, hW6⟩ : ∃ W6, w5.setCell ⟨g5, 2 + ix, none⟩ (.int .u8 y) = W6 := ⟨_, rfl⟩
        rw [hW6] at HG HB6 ⊢
        clear FG hrc hB6 hB5 hown5 hgr5 hcell5 hfz5 hxo hxx hzb hz hy hW6 hix hix2 hix3 hix4 hix5 hrV hgb5 hglt5
        refine HG.out.mono ?_
        rintro e w6 ⟨K6, k6, rfl, hB7⟩
        have hal6 := (Below.refl _ w6).alloc (Nat.le_refl _) (.cells #[.int .u64 0, .slice K6 0 k6] 26)
        have HB7 := Lib.hid (HB6.out.trans ((hB7.trans (hal6.mono hB7.size)).mono HB6.out.size))
        clear hB7 hal6 HG HB6
        by_cases hm0 : m = 0
        · subst hm0
          have y0 := (B0.out.later HB7.out).cell 1 rfl
          go_wp2_with fail
          refine (awake (w6.alloc (.cells #[.int .u64 0, .slice K6 0 k6] 26))).mono ?_
          rintro e w7 ⟨rfl, hB8⟩
          go_wp2
          go_ret
          exact ⟨rfl, (HB0.out.trans (HB7.out.mono HB0.out.size)).trans (hB8.mono (Nat.le_trans HB0.out.size HB7.out.size))⟩
        · obtain ⟨q, rfl⟩ : ∃ q, m = q + 1 := ⟨m - 1, by omega⟩
          have y1 := (B0.out.later HB7.out).cell 1 rfl
          have FG := get_err (some ⟨g, 0, none⟩) (14 + (q + 1)) c1 (recR v) (q : Int) (w6.alloc (.cells #[.int .u64 0, .slice K6 0 k6] 26)) 2 2 rfl hc1 hm1 (HR.out.below HB7.out) (few_err HOK.out (by omega) (by rw [HM.out]; omega)) (by decide)
          have HG := Lib.hid FG
          clear FG
          have hq0 : (0 : Int) < (q : Int) + 1 := by omega
          go_wp2_with fail
          refine HG.out.mono ?_
          rintro e w8 ⟨K8, k8, rfl, hB8⟩
          have hal8 := (Below.refl _ w8).alloc (Nat.le_refl _) (.cells #[.int .u64 0, .slice K8 0 k8] 26)
          have HB8 := Lib.hid (HB7.out.trans ((hB8.trans (hal8.mono hB8.size)).mono HB7.out.size))
          clear hB8 HG y1
          have y2 := (B0.out.later HB8.out).cell 1 rfl
          obtain ⟨bk, offk, rfl, hck⟩ := (HK.out.below HB8.out).cell (by rw [HM.out]; omega)
          have x2 := hck q (by rw [HM.out]; omega)
          obtain ⟨L, hL⟩ : ∃ L, v.ids[q]?.getD 0 = L := ⟨_, rfl⟩
          have hgd : v.ids.getD q 0 = L := by rw [← hL]; simp [List.getD]
          have hri := ids_rise HOK.out q (by rw [HM.out]; omega)
          have hlt := (ids_bytes HOK.out (v.ids.getD q 0) (by rw [show v.ids.getD q 0 = v.ids[q]'(by rw [HM.out]; omega) by simp [List.getD, show q < v.ids.length by rw [HM.out]; omega]]; exact List.getElem_mem _)).2
          rw [hgd] at hri hlt
          rw [hL] at x2
          have HGD := Lib.hid hgd
          clear hck hL hgd
          by_cases hlast : L = (q : Int)
          · have FG := get_err (some ⟨g, 0, none⟩) (14 + (q + 1)) c1 (recR v) L (w8.alloc (.cells #[.int .u64 0, .slice K8 0 k8] 26)) 2 2 rfl hc1 hm1 (HR.out.below HB8.out) (few_err HOK.out (by omega) (by rw [HM.out]; omega)) (by decide)
            have HG := Lib.hid FG
            have g1 : (L == (q : Int)) = true := by simp; omega
            have g2 : decide (L ≥ (q : Int) + 1) = false := by simp; omega
            clear FG hlast
            go_wp2_with fail
            refine HG.out.mono ?_
            rintro e w9 ⟨K9, k9, rfl, hB9⟩
            have hal9 := (Below.refl _ w9).alloc (Nat.le_refl _) (.cells #[.int .u64 0, .slice K9 0 k9] 26)
            have HB9 := Lib.hid (HB8.out.trans ((hB9.trans (hal9.mono hB9.size)).mono HB8.out.size))
            clear hB9 HG hal9 hal8
            go_wp2_with fail
            refine (awake (w9.alloc (.cells #[.int .u64 0, .slice K9 0 k9] 26))).mono ?_
            rintro e w7 ⟨rfl, hB10⟩
            go_wp2
            go_ret
            exact ⟨rfl, (HB0.out.trans (HB9.out.mono HB0.out.size)).trans (hB10.mono (Nat.le_trans HB0.out.size HB9.out.size))⟩
          · have FG := get_err (some ⟨g, 0, none⟩) (14 + (q + 1)) c1 (recR v) L (w8.alloc (.cells #[.int .u64 0, .slice K8 0 k8] 26)) 9 9 rfl hc1 hm1 (HR.out.below HB8.out) (last_err HOK.out HT.out.1 HT.out.2 (by rw [HM.out]; omega) (by rw [HM.out, show q + 1 - 1 = q by omega]; exact HGD.out) (by rw [HM.out]; omega) hlt) (by decide)
            have HG := Lib.hid FG
            have g1 : (L == (q : Int)) = false := by simp; omega
            have g2 : decide (L ≥ (q : Int) + 1) = true := by simp; omega
            clear FG hlast
            go_wp2_with fail
            refine HG.out.mono ?_
            rintro e w9 ⟨K9, k9, rfl, hB9⟩
            have hal9 := (Below.refl _ w9).alloc (Nat.le_refl _) (.cells #[.int .u64 0, .slice K9 0 k9] 26)
            have HB9 := Lib.hid (HB8.out.trans ((hB9.trans (hal9.mono hB9.size)).mono HB8.out.size))
            clear hB9 HG hal9 hal8
            go_wp2_with fail
            refine (awake (w9.alloc (.cells #[.int .u64 0, .slice K9 0 k9] 26))).mono ?_
            rintro e w7 ⟨rfl, hB10⟩
            go_wp2
            go_ret
            exact ⟨rfl, (HB0.out.trans (HB9.out.mono HB0.out.size)).trans (hB10.mono (Nat.le_trans HB0.out.size HB9.out.size))⟩
end Go.Proofs.Ytpcahfjejbiocaa.Record
