/-
  The walk of the law BitsBoth. By an AI agent.
-/
import Derived.Test.YtmmlnfffnfjjnaaDoorBitsLaw1
import Derived.Test.YtmmlnfffnfjjnaaDoorBitsMake2
import Derived.Test.YtmmlnfffnfjjnaaDoorBitsCut2
namespace Go.Proofs.YtmmlnfffnfjjnaaDoor.BitsWalks
open Go.RowKit Go.Proofs.YtmmlnfffnfjjnaaDoor.Ints Go.Proofs.YtmmlnfffnfjjnaaDoor.Words Go.Proofs.YtmmlnfffnfjjnaaDoor.RdW

theorem less_none {xs ys us : List Nat} {n : Nat} (hs : IsSet us (fun k => has xs k && !has ys k)) (hl : us.length = n) (hx : Ws xs) : ((n : Int) == 0) = within xs ys := by
  have h1 : n = 0 ↔ within xs ys = true := by
    rw [← hl, hs.empty, within_iff hx]
    constructor
    · intro h k hk
      have := h k
      rw [hk] at this
      simpa using this
    · intro h k
      cases e : has xs k
      · rfl
      · rw [h k e]; rfl
  rw [Bool.eq_iff_iff, beq_iff_eq, ← h1]
  omega
theorem same_trim {xs ys us vs : List Nat} (hu : IsSet us (has xs)) (hv : IsSet vs (has ys)) (hx : Ws xs) (hy : Ws ys) : decide (us = vs) = same xs ys := by
  rw [Bool.eq_iff_iff, decide_eq_true_iff, same_iff hx hy]
  constructor
  · intro h k
    rw [← hu.2.2, ← hv.2.2, h]
  · intro h
    exact set_ext (hu.congr h) hv

set_option maxHeartbeats 2000000 in
theorem lawBoth (A B : Option Addr) (n c m d : Nat) (xs ys : List Nat) (k : Int) (w : World) (hk : k ≤ 9223372036854775807) (hnc : n ≤ c) (hcm : c ≤ maxLen) (hmd : m ≤ d) (hdm : d ≤ maxLen)
    (hX : RdW w A n xs) (hY : RdW w B m ys) (hT : Tab w) :
    Calls Tryd.prog 4 #[.slice A n c, .slice B m d, .int .i64 k] w fun e w' => e = .returned (.bool true) ∧ Below w.heap.size w w' := by
  by_cases hbig : 100 < n
  · have hb1 : (100 : Int) < (n : Int) := by omega
    go_enter Tryd.func4, Tryd.ntmps4
    go_wp2_with (go_at_call 8; refine (awake _ hT).mono ?_; rintro e w' ⟨rfl, hb⟩)
    go_ret
    exact ⟨rfl, by assumption⟩
  have hb1 : ¬ (100 : Int) < (n : Int) := by omega
  by_cases hbig2 : 100 < m
  · have hb2 : (100 : Int) < (m : Int) := by omega
    go_enter Tryd.func4, Tryd.ntmps4
    go_wp2_with (go_at_call 8; refine (awake _ hT).mono ?_; rintro e w' ⟨rfl, hb⟩)
    go_ret
    exact ⟨rfl, by assumption⟩
  have hb2 : ¬ (100 : Int) < (m : Int) := by omega
  have hn : n ≤ 1048576 := by omega
  have hm : m ≤ 1048576 := by omega
  have hn63 : n ≤ maxLen := Nat.le_trans hnc hcm
  have hm63 : m ≤ maxLen := Nat.le_trans hmd hdm
  have hwx := hX.ws
  have hwy := hY.ws
  have HB := Below.refl w.heap.size w
  go_enter Tryd.func4, Tryd.ntmps4
  go_wp2_with fail
  refine (refLess A B n c m d xs ys w hn hm hX hY).mono ?_
  rintro e w1 ⟨D1, n1, c1, us1, rfl, hs1, hr1, hc1, hm1, hl1, hb⟩
  replace hX := hX.below hb
  replace hY := hY.below hb
  replace hT := hT.later hb
  replace HB := HB.trans (hb.mono HB.size)
  clear hb
  have hk1 : n1 ≤ maxLen := Nat.le_trans hc1 hm1
  have hwi : ((n1 : Int) == 0) = within xs ys := by rw [less_none hs1 hr1.len hwx]
  clear hr1
  go_wp2_with fail
  refine (refTrim A n c xs w1 hn hnc hcm hX).mono ?_
  rintro e w2 ⟨D2, n2, c2, us2, rfl, hs2, hr2, hc2, hm2, hl2, hb⟩
  replace hX := hX.below hb
  replace hY := hY.below hb
  replace hT := hT.later hb
  replace HB := HB.trans (hb.mono HB.size)
  clear hb
  have hk2 : n2 ≤ maxLen := Nat.le_trans hc2 hm2
  go_wp2_with fail
  refine (refTrim B m d ys w2 hm hmd hdm hY).mono ?_
  rintro e w3 ⟨D3, n3, c3, us3, rfl, hs3, hr3, hc3, hm3, hl3, hb⟩
  replace hX := hX.below hb
  replace hY := hY.below hb
  replace hr2 := hr2.below hb
  replace hT := hT.later hb
  replace HB := HB.trans (hb.mono HB.size)
  clear hb
  have hk3 : n3 ≤ maxLen := Nat.le_trans hc3 hm3
  have hse : decide (us2 = us3) = same xs ys := same_trim hs2 hs3 hwx hwy
  have hsw := sameWords D2 D3 n2 c2 n3 c3 us2 us3 w3 hk2 hr2 hr3
  rw [hse] at hsw
  clear hse
  go_wp2_with fail
  refine (hsw).mono ?_
  rintro e w4 ⟨rfl, q4, rfl⟩
  have hb := below_q w3 q4
  replace hX := hX.below hb
  replace hY := hY.below hb
  replace hr2 := hr2.below hb
  replace hr3 := hr3.below hb
  replace hT := hT.later hb
  replace HB := HB.trans (hb.mono HB.size)
  clear hb
  generalize w3.drewN q4 = w4 at *
  clear hsw
  clear hr2
  clear hr3
  go_wp2_with fail
  refine (or_ A B n c m d xs ys w4 hn hm hX hY).mono ?_
  rintro e w5 ⟨D5, n5, c5, us5, rfl, hs5, hr5, hc5, hm5, hl5, hb⟩
  replace hX := hX.below hb
  replace hY := hY.below hb
  replace hT := hT.later hb
  replace HB := HB.trans (hb.mono HB.size)
  clear hb
  have hk5 : n5 ≤ maxLen := Nat.le_trans hc5 hm5
  go_wp2_with fail
  refine (refOr A B n c m d xs ys w5 hn hm hX hY).mono ?_
  rintro e w6 ⟨D6, n6, c6, us6, rfl, hs6, hr6, hc6, hm6, hl6, hb⟩
  replace hX := hX.below hb
  replace hY := hY.below hb
  replace hr5 := hr5.below hb
  replace hT := hT.later hb
  replace HB := HB.trans (hb.mono HB.size)
  clear hb
  have hk6 : n6 ≤ maxLen := Nat.le_trans hc6 hm6
  go_wp2_with fail
  refine (sameTrue D5 D6 n5 c5 n6 c6 us5 us6 w6 hk5 hr5 hr6 (set_ext hs5 hs6)).mono ?_
  rintro e w7 ⟨rfl, q7, rfl⟩
  have hb := below_q w6 q7
  replace hX := hX.below hb
  replace hY := hY.below hb
  replace hr5 := hr5.below hb
  replace hr6 := hr6.below hb
  replace hT := hT.later hb
  replace HB := HB.trans (hb.mono HB.size)
  clear hb
  generalize w6.drewN q7 = w7 at *
  clear hr5
  clear hr6
  go_wp2_with fail
  refine (and_ A B n c m d xs ys w7 hn hm hX hY).mono ?_
  rintro e w8 ⟨D8, n8, c8, us8, rfl, hs8, hr8, hc8, hm8, hl8, hb⟩
  replace hX := hX.below hb
  replace hY := hY.below hb
  replace hT := hT.later hb
  replace HB := HB.trans (hb.mono HB.size)
  clear hb
  have hk8 : n8 ≤ maxLen := Nat.le_trans hc8 hm8
  go_wp2_with fail
  refine (refAnd A B n c m d xs ys w8 hn hm hX hY).mono ?_
  rintro e w9 ⟨D9, n9, c9, us9, rfl, hs9, hr9, hc9, hm9, hl9, hb⟩
  replace hX := hX.below hb
  replace hY := hY.below hb
  replace hr8 := hr8.below hb
  replace hT := hT.later hb
  replace HB := HB.trans (hb.mono HB.size)
  clear hb
  have hk9 : n9 ≤ maxLen := Nat.le_trans hc9 hm9
  go_wp2_with fail
  refine (sameTrue D8 D9 n8 c8 n9 c9 us8 us9 w9 hk8 hr8 hr9 (set_ext hs8 hs9)).mono ?_
  rintro e w10 ⟨rfl, q10, rfl⟩
  have hb := below_q w9 q10
  replace hX := hX.below hb
  replace hY := hY.below hb
  replace hr8 := hr8.below hb
  replace hr9 := hr9.below hb
  replace hT := hT.later hb
  replace HB := HB.trans (hb.mono HB.size)
  clear hb
  generalize w9.drewN q10 = w10 at *
  clear hr8
  clear hr9
  go_wp2_with fail
  refine (less_ A B n c m d xs ys w10 hn hm hX hY).mono ?_
  rintro e w11 ⟨D11, n11, c11, us11, rfl, hs11, hr11, hc11, hm11, hl11, hb⟩
  replace hX := hX.below hb
  replace hY := hY.below hb
  replace hT := hT.later hb
  replace HB := HB.trans (hb.mono HB.size)
  clear hb
  have hk11 : n11 ≤ maxLen := Nat.le_trans hc11 hm11
  go_wp2_with fail
  refine (refLess A B n c m d xs ys w11 hn hm hX hY).mono ?_
  rintro e w12 ⟨D12, n12, c12, us12, rfl, hs12, hr12, hc12, hm12, hl12, hb⟩
  replace hX := hX.below hb
  replace hY := hY.below hb
  replace hr11 := hr11.below hb
  replace hT := hT.later hb
  replace HB := HB.trans (hb.mono HB.size)
  clear hb
  have hk12 : n12 ≤ maxLen := Nat.le_trans hc12 hm12
  go_wp2_with fail
  refine (sameTrue D11 D12 n11 c11 n12 c12 us11 us12 w12 hk11 hr11 hr12 (set_ext hs11 hs12)).mono ?_
  rintro e w13 ⟨rfl, q13, rfl⟩
  have hb := below_q w12 q13
  replace hX := hX.below hb
  replace hY := hY.below hb
  replace hr11 := hr11.below hb
  replace hr12 := hr12.below hb
  replace hT := hT.later hb
  replace HB := HB.trans (hb.mono HB.size)
  clear hb
  generalize w12.drewN q13 = w13 at *
  clear hr11
  clear hr12
  go_wp2_with fail
  refine (within_ A B n c m d xs ys w13 hn63 hX hY).mono ?_
  rintro e w' ⟨rfl, rfl⟩
  go_wp2_with fail
  refine (same_ A B n c m d xs ys w13 hn63 hm63 hX hY).mono ?_
  rintro e w' ⟨rfl, rfl⟩
  go_wp2_with fail
  refine (cut_ A n c xs w13 k hk hn hX).mono ?_
  rintro e w14 ⟨D14, n14, c14, us14, rfl, hs14, hr14, hc14, hm14, hl14, hb⟩
  replace hX := hX.below hb
  replace hY := hY.below hb
  replace hT := hT.later hb
  replace HB := HB.trans (hb.mono HB.size)
  clear hb
  have hk14 : n14 ≤ maxLen := Nat.le_trans hc14 hm14
  go_wp2_with fail
  refine (refCut A n c xs w14 k hk hn hX).mono ?_
  rintro e w15 ⟨D15, n15, c15, us15, rfl, hs15, hr15, hc15, hm15, hl15, hb⟩
  replace hX := hX.below hb
  replace hY := hY.below hb
  replace hr14 := hr14.below hb
  replace hT := hT.later hb
  replace HB := HB.trans (hb.mono HB.size)
  clear hb
  have hk15 : n15 ≤ maxLen := Nat.le_trans hc15 hm15
  go_wp2_with fail
  refine (sameTrue D14 D15 n14 c14 n15 c15 us14 us15 w15 hk14 hr14 hr15 (set_ext hs14 hs15)).mono ?_
  rintro e w16 ⟨rfl, q16, rfl⟩
  have hb := below_q w15 q16
  replace hX := hX.below hb
  replace hY := hY.below hb
  replace hr14 := hr14.below hb
  replace hr15 := hr15.below hb
  replace hT := hT.later hb
  replace HB := HB.trans (hb.mono HB.size)
  clear hb
  generalize w15.drewN q16 = w16 at *
  clear hr14
  clear hr15
  go_wp2_with fail
  refine (awake w16 hT).mono ?_
  rintro e wl ⟨rfl, hb⟩
  replace HB := HB.trans (hb.mono HB.size)
  clear hb hX hY hT
  go_wp2
  go_ret
  exact ⟨rfl, HB⟩
end Go.Proofs.YtmmlnfffnfjjnaaDoor.BitsWalks
