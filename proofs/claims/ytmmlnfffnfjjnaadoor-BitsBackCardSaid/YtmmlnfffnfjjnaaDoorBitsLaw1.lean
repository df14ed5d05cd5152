/-
  The walk of the law BitsMakes. By an AI agent.
-/
import Derived.Test.YtmmlnfffnfjjnaaDoorBitsAwake
namespace Go.Proofs.YtmmlnfffnfjjnaaDoor.BitsWalks
open Go.RowKit Go.Proofs.YtmmlnfffnfjjnaaDoor.Ints Go.Proofs.YtmmlnfffnfjjnaaDoor.Words Go.Proofs.YtmmlnfffnfjjnaaDoor.RdW

theorem below_q (w : World) (q : Nat) : Below w.heap.size w (w.drewN q) := below_drewN (Below.refl _ _) q

set_option maxHeartbeats 1000000 in
theorem lawMakes (A B : Option Addr) (n c m d : Nat) (zs : List Int) (xs : List Nat) (k : Int) (w : World) (hk : k ≤ 9223372036854775807) (hnc : n ≤ c) (hcm : c ≤ maxLen) (hmd : m ≤ d) (hdm : d ≤ maxLen)
    (hA : Rd .i64 w A n zs) (hX : RdW w B m xs) (hT : Tab w) :
    Calls Tryd.prog 3 #[.slice A n c, .int .i64 k, .slice B m d] w fun e w' => e = .returned (.bool true) ∧ Below w.heap.size w w' := by
  have hn63 : n ≤ maxLen := Nat.le_trans hnc hcm
  by_cases hbig : 500 < n
  · have hb1 : (500 : Int) < (n : Int) := by omega
    go_enter Tryd.func3, Tryd.ntmps3
    go_wp2_with (go_at_call 8; refine (awake _ hT).mono ?_; rintro e w' ⟨rfl, hb⟩)
    go_ret
    exact ⟨rfl, by assumption⟩
  have hb1 : ¬ (500 : Int) < (n : Int) := by omega
  by_cases hbig2 : 100 < m
  · have hb2 : (100 : Int) < (m : Int) := by omega
    go_enter Tryd.func3, Tryd.ntmps3
    go_wp2_with (go_at_call 8; refine (awake _ hT).mono ?_; rintro e w' ⟨rfl, hb⟩)
    go_ret
    exact ⟨rfl, by assumption⟩
  have hb2 : ¬ (100 : Int) < (m : Int) := by omega
  have hm : m ≤ 1048576 := by omega
  have hm63 : m ≤ maxLen := by unfold maxLen; omega
  have HB := Below.refl w.heap.size w
  go_enter Tryd.func3, Tryd.ntmps3
  go_wp2_with fail
  refine (of_ A n c zs w hn63 hA).mono ?_
  rintro e w1 ⟨D1, n1, c1, us1, rfl, hs1, hr1, hnc1, hcm1, _, hb⟩
  replace hA := hA.below hb
  replace hX := hX.below hb
  replace hT := hT.later hb
  replace HB := HB.trans (hb.mono HB.size)
  clear hb
  have hm1 : n1 ≤ maxLen := Nat.le_trans hnc1 hcm1
  go_wp2_with fail
  refine (refOf A n c zs w1 hn63 hA).mono ?_
  rintro e w2 ⟨D2, n2, c2, us2, rfl, hs2, hr2, hnc2, hcm2, _, hb⟩
  have he := set_ext hs2 hs1
  subst he
  replace hA := hA.below hb
  replace hX := hX.below hb
  replace hr1 := hr1.below hb
  replace hT := hT.later hb
  replace HB := HB.trans (hb.mono HB.size)
  clear hb hs2
  go_wp2_with fail
  refine (sameTrue D1 D2 n1 c1 n2 c2 _ _ w2 hm1 hr1 hr2 rfl).mono ?_
  rintro e w3 ⟨rfl, q3, rfl⟩
  have hb := below_q w2 q3
  replace hA := hA.below hb
  replace hX := hX.below hb
  replace hr1 := hr1.below hb
  replace hT := hT.later hb
  replace HB := HB.trans (hb.mono HB.size)
  clear hb hr2
  generalize w2.drewN q3 = w3 at *
  go_wp2_with fail
  refine (has_ D1 n1 c1 us2 w3 k hk hr1).mono ?_
  rintro e w' ⟨rfl, rfl⟩
  go_wp2_with fail
  refine (refOf A n c zs w3 hn63 hA).mono ?_
  rintro e w4 ⟨D4, n4, c4, us4, rfl, hs4, hr4, hnc4, hcm4, _, hb⟩
  have he := set_ext hs4 hs1
  subst he
  replace hX := hX.below hb
  replace hT := hT.later hb
  replace HB := HB.trans (hb.mono HB.size)
  clear hb hs4 hs1 hr1 hA
  go_wp2_with fail
  refine (refHas D4 n4 c4 us4 w4 k hk (Nat.le_trans hnc4 hcm4) hr4).mono ?_
  rintro e w' ⟨rfl, rfl⟩
  clear hr4
  go_wp2_with fail
  refine (list_ B m d xs w4 hm hX hT).mono ?_
  rintro e w5 ⟨D5, n5, c5, rfl, hn5, hr5, hnc5, hcm5, hb⟩
  replace hX := hX.below hb
  replace hT := hT.later hb
  replace HB := HB.trans (hb.mono HB.size)
  clear hb hn5
  go_wp2_with fail
  refine (refList B m d xs w5 hm hX).mono ?_
  rintro e w6 ⟨D6, n6, c6, rfl, hn6, hr6, hnc6, hcm6, hb⟩
  replace hX := hX.below hb
  replace hT := hT.later hb
  replace hr5 := hr5.below hb
  replace HB := HB.trans (hb.mono HB.size)
  clear hb hn6
  go_wp2_with fail
  refine (equalTrue D5 D6 n5 c5 n6 c6 _ _ w6 (Nat.le_trans hnc5 hcm5) hr5 hr6 rfl).mono ?_
  rintro e w7 ⟨rfl, q7, rfl⟩
  have hb := below_q w6 q7
  replace hX := hX.below hb
  replace hT := hT.later hb
  replace HB := HB.trans (hb.mono HB.size)
  clear hb hr5 hr6
  generalize w6.drewN q7 = w7 at *
  go_wp2_with fail
  refine (count_ B m d xs w7 hm hX).mono ?_
  rintro e w' ⟨rfl, rfl⟩
  go_wp2_with fail
  refine (refList B m d xs w7 hm hX).mono ?_
  rintro e w8 ⟨D8, n8, c8, rfl, hn8, hr8, hnc8, hcm8, hb⟩
  rw [elems_len] at hn8
  subst hn8
  replace hX := hX.below hb
  replace hT := hT.later hb
  replace HB := HB.trans (hb.mono HB.size)
  clear hb hr8
  go_wp2_with fail
  refine (has_ B m d xs w8 k hk hX).mono ?_
  rintro e w' ⟨rfl, rfl⟩
  go_wp2_with fail
  refine (refHas B m d xs w8 k hk hm63 hX).mono ?_
  rintro e w' ⟨rfl, rfl⟩
  go_wp2_with fail
  refine (awake w8 hT).mono ?_
  rintro e w9 ⟨rfl, hb⟩
  replace HB := HB.trans (hb.mono HB.size)
  clear hb hX hT
  go_wp2
  go_ret
  exact ⟨rfl, HB⟩
end Go.Proofs.YtmmlnfffnfjjnaaDoor.BitsWalks
