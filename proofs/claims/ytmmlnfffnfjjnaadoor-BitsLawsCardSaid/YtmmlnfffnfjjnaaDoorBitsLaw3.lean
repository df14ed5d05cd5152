/-
  The walk of the law BitsLaws. By an AI agent.
-/
import Derived.Test.YtmmlnfffnfjjnaaDoorBitsLaw1
import Derived.Test.YtmmlnfffnfjjnaaDoorBitsMake2
import Derived.Test.YtmmlnfffnfjjnaaDoorBitsCut2
namespace Go.Proofs.YtmmlnfffnfjjnaaDoor.BitsWalks
open Go.RowKit Go.Proofs.YtmmlnfffnfjjnaaDoor.Ints Go.Proofs.YtmmlnfffnfjjnaaDoor.Words Go.Proofs.YtmmlnfffnfjjnaaDoor.RdW

set_option maxHeartbeats 8000000 in
theorem lawLaws (A B C : Option Addr) (n c m d p r : Nat) (xs ys zs : List Nat) (w : World) (hnc : n ≤ c) (hcm : c ≤ maxLen) (hmd : m ≤ d) (hdm : d ≤ maxLen) (hpr : p ≤ r) (hrm : r ≤ maxLen)
    (hX : RdW w A n xs) (hY : RdW w B m ys) (hZ : RdW w C p zs) (hT : Tab w) :
    Calls Tryd.prog 5 #[.slice A n c, .slice B m d, .slice C p r] w fun e w' => e = .returned (.bool true) ∧ Below w.heap.size w w' := by
  by_cases hbign : 100 < n
  · have hb0 : (100 : Int) < (n : Int) := by omega
    go_enter Tryd.func5, Tryd.ntmps5
    go_wp2_with (go_at_call 8; refine (awake _ hT).mono ?_; rintro e w' ⟨rfl, hb⟩)
    go_ret
    exact ⟨rfl, by assumption⟩
  have hbn : ¬ (100 : Int) < (n : Int) := by omega
  by_cases hbigm : 100 < m
  · have hb0 : (100 : Int) < (m : Int) := by omega
    go_enter Tryd.func5, Tryd.ntmps5
    go_wp2_with (go_at_call 8; refine (awake _ hT).mono ?_; rintro e w' ⟨rfl, hb⟩)
    go_ret
    exact ⟨rfl, by assumption⟩
  have hbm : ¬ (100 : Int) < (m : Int) := by omega
  by_cases hbigp : 100 < p
  · have hb0 : (100 : Int) < (p : Int) := by omega
    go_enter Tryd.func5, Tryd.ntmps5
    go_wp2_with (go_at_call 8; refine (awake _ hT).mono ?_; rintro e w' ⟨rfl, hb⟩)
    go_ret
    exact ⟨rfl, by assumption⟩
  have hbp : ¬ (100 : Int) < (p : Int) := by omega
  have hn : n ≤ 1048576 := by omega
  have hm : m ≤ 1048576 := by omega
  have hp : p ≤ 1048576 := by omega
  have hn63 : n ≤ maxLen := Nat.le_trans hnc hcm
  have hm63 : m ≤ maxLen := Nat.le_trans hmd hdm
  have hp63 : p ≤ maxLen := Nat.le_trans hpr hrm
  have hwx := hX.ws
  have hwy := hY.ws
  have hwz := hZ.ws
  have HB := Below.refl w.heap.size w
  go_enter Tryd.func5, Tryd.ntmps5
  go_wp2_with fail
  refine (or_ A B n c m d xs ys w hn hm hX hY).mono ?_
  rintro e w1 ⟨D1, n1, c1, us1, rfl, hs1, hr1, hc1, hm1, hl1, hb⟩
  replace hX := hX.below hb
  replace hY := hY.below hb
  replace hZ := hZ.below hb
  replace hT := hT.later hb
  replace HB := HB.trans (hb.mono HB.size)
  clear hb
  have hk1 : n1 ≤ maxLen := Nat.le_trans hc1 hm1
  have hh1 : ∀ k, has us1 k = (has xs k || has ys k) := fun k => by rw [hs1.2.2]
  have hv1 : n1 ≤ 1048576 := by omega
  have hw1 := hs1.1
  have hb1 : n1 ≤ 100 := by omega
  clear hl1 hs1
  go_wp2_with fail
  refine (or_ B A m d n c ys xs w1 hm hn hY hX).mono ?_
  rintro e w2 ⟨D2, n2, c2, us2, rfl, hs2, hr2, hc2, hm2, hl2, hb⟩
  replace hX := hX.below hb
  replace hY := hY.below hb
  replace hZ := hZ.below hb
  replace hr1 := hr1.below hb
  replace hT := hT.later hb
  replace HB := HB.trans (hb.mono HB.size)
  clear hb
  have hk2 : n2 ≤ maxLen := Nat.le_trans hc2 hm2
  have hh2 : ∀ k, has us2 k = (has ys k || has xs k) := fun k => by rw [hs2.2.2]
  have hv2 : n2 ≤ 1048576 := by omega
  have hw2 := hs2.1
  have hb2 : n2 ≤ 100 := by omega
  clear hl2 hs2
  have hsm : same us1 us2 = true := (same_iff hw1 hw2).2 (fun k => by simp only [hh1, hh2]; cases has xs k <;> cases has ys k <;> cases has zs k <;> rfl)
  have hc := same_ D1 D2 n1 c1 n2 c2 us1 us2 w2 hk1 hk2 hr1 hr2
  rw [hsm] at hc
  clear hsm
  go_wp2_with fail
  refine (hc).mono ?_
  rintro e w' ⟨rfl, rfl⟩
  clear hc
  clear hr1
  clear hh1 hv1 hw1 hk1 hb1
  clear hr2
  clear hh2 hv2 hw2 hk2 hb2
  go_wp2_with fail
  refine (and_ A B n c m d xs ys w2 hn hm hX hY).mono ?_
  rintro e w3 ⟨D3, n3, c3, us3, rfl, hs3, hr3, hc3, hm3, hl3, hb⟩
  replace hX := hX.below hb
  replace hY := hY.below hb
  replace hZ := hZ.below hb
  replace hT := hT.later hb
  replace HB := HB.trans (hb.mono HB.size)
  clear hb
  have hk3 : n3 ≤ maxLen := Nat.le_trans hc3 hm3
  have hh3 : ∀ k, has us3 k = (has xs k && has ys k) := fun k => by rw [hs3.2.2]
  have hv3 : n3 ≤ 1048576 := by omega
  have hw3 := hs3.1
  have hb3 : n3 ≤ 100 := by omega
  clear hl3 hs3
  go_wp2_with fail
  refine (and_ B A m d n c ys xs w3 hm hn hY hX).mono ?_
  rintro e w4 ⟨D4, n4, c4, us4, rfl, hs4, hr4, hc4, hm4, hl4, hb⟩
  replace hX := hX.below hb
  replace hY := hY.below hb
  replace hZ := hZ.below hb
  replace hr3 := hr3.below hb
  replace hT := hT.later hb
  replace HB := HB.trans (hb.mono HB.size)
  clear hb
  have hk4 : n4 ≤ maxLen := Nat.le_trans hc4 hm4
  have hh4 : ∀ k, has us4 k = (has ys k && has xs k) := fun k => by rw [hs4.2.2]
  have hv4 : n4 ≤ 1048576 := by omega
  have hw4 := hs4.1
  have hb4 : n4 ≤ 100 := by omega
  clear hl4 hs4
  have hsm : same us3 us4 = true := (same_iff hw3 hw4).2 (fun k => by simp only [hh3, hh4]; cases has xs k <;> cases has ys k <;> cases has zs k <;> rfl)
  have hc := same_ D3 D4 n3 c3 n4 c4 us3 us4 w4 hk3 hk4 hr3 hr4
  rw [hsm] at hc
  clear hsm
  go_wp2_with fail
  refine (hc).mono ?_
  rintro e w' ⟨rfl, rfl⟩
  clear hc
  clear hr3
  clear hh3 hv3 hw3 hk3 hb3
  clear hr4
  clear hh4 hv4 hw4 hk4 hb4
  go_wp2_with fail
  refine (or_ A B n c m d xs ys w4 hn hm hX hY).mono ?_
  rintro e w5 ⟨D5, n5, c5, us5, rfl, hs5, hr5, hc5, hm5, hl5, hb⟩
  replace hX := hX.below hb
  replace hY := hY.below hb
  replace hZ := hZ.below hb
  replace hT := hT.later hb
  replace HB := HB.trans (hb.mono HB.size)
  clear hb
  have hk5 : n5 ≤ maxLen := Nat.le_trans hc5 hm5
  have hh5 : ∀ k, has us5 k = (has xs k || has ys k) := fun k => by rw [hs5.2.2]
  have hv5 : n5 ≤ 1048576 := by omega
  have hw5 := hs5.1
  have hb5 : n5 ≤ 100 := by omega
  clear hl5 hs5
  go_wp2_with fail
  refine (or_ D5 C n5 c5 p r us5 zs w5 hv5 hp hr5 hZ).mono ?_
  rintro e w6 ⟨D6, n6, c6, us6, rfl, hs6, hr6, hc6, hm6, hl6, hb⟩
  replace hX := hX.below hb
  replace hY := hY.below hb
  replace hZ := hZ.below hb
  replace hr5 := hr5.below hb
  replace hT := hT.later hb
  replace HB := HB.trans (hb.mono HB.size)
  clear hb
  have hk6 : n6 ≤ maxLen := Nat.le_trans hc6 hm6
  have hh6 : ∀ k, has us6 k = ((has xs k || has ys k) || has zs k) := fun k => by rw [hs6.2.2]; simp only [hh5]
  have hv6 : n6 ≤ 1048576 := by omega
  have hw6 := hs6.1
  have hb6 : n6 ≤ 100 := by omega
  clear hl6 hs6
  go_wp2_with fail
  refine (or_ B C m d p r ys zs w6 hm hp hY hZ).mono ?_
  rintro e w7 ⟨D7, n7, c7, us7, rfl, hs7, hr7, hc7, hm7, hl7, hb⟩
  replace hX := hX.below hb
  replace hY := hY.below hb
  replace hZ := hZ.below hb
  replace hr5 := hr5.below hb
  replace hr6 := hr6.below hb
  replace hT := hT.later hb
  replace HB := HB.trans (hb.mono HB.size)
  clear hb
  have hk7 : n7 ≤ maxLen := Nat.le_trans hc7 hm7
  have hh7 : ∀ k, has us7 k = (has ys k || has zs k) := fun k => by rw [hs7.2.2]
  have hv7 : n7 ≤ 1048576 := by omega
  have hw7 := hs7.1
  have hb7 : n7 ≤ 100 := by omega
  clear hl7 hs7
  go_wp2_with fail
  refine (or_ A D7 n c n7 c7 xs us7 w7 hn hv7 hX hr7).mono ?_
  rintro e w8 ⟨D8, n8, c8, us8, rfl, hs8, hr8, hc8, hm8, hl8, hb⟩
  replace hX := hX.below hb
  replace hY := hY.below hb
  replace hZ := hZ.below hb
  replace hr5 := hr5.below hb
  replace hr6 := hr6.below hb
  replace hr7 := hr7.below hb
  replace hT := hT.later hb
  replace HB := HB.trans (hb.mono HB.size)
  clear hb
  have hk8 : n8 ≤ maxLen := Nat.le_trans hc8 hm8
  have hh8 : ∀ k, has us8 k = (has xs k || (has ys k || has zs k)) := fun k => by rw [hs8.2.2]; simp only [hh7]
  have hv8 : n8 ≤ 1048576 := by omega
  have hw8 := hs8.1
  have hb8 : n8 ≤ 100 := by omega
  clear hl8 hs8
  have hsm : same us6 us8 = true := (same_iff hw6 hw8).2 (fun k => by simp only [hh6, hh8]; cases has xs k <;> cases has ys k <;> cases has zs k <;> rfl)
  have hc := same_ D6 D8 n6 c6 n8 c8 us6 us8 w8 hk6 hk8 hr6 hr8
  rw [hsm] at hc
  clear hsm
  go_wp2_with fail
  refine (hc).mono ?_
  rintro e w' ⟨rfl, rfl⟩
  clear hc
  clear hr6
  clear hh6 hv6 hw6 hk6 hb6
  clear hr5
  clear hh5 hv5 hw5 hk5 hb5
  clear hr8
  clear hh8 hv8 hw8 hk8 hb8
  clear hr7
  clear hh7 hv7 hw7 hk7 hb7
  go_wp2_with fail
  refine (and_ A B n c m d xs ys w8 hn hm hX hY).mono ?_
  rintro e w9 ⟨D9, n9, c9, us9, rfl, hs9, hr9, hc9, hm9, hl9, hb⟩
  replace hX := hX.below hb
  replace hY := hY.below hb
  replace hZ := hZ.below hb
  replace hT := hT.later hb
  replace HB := HB.trans (hb.mono HB.size)
  clear hb
  have hk9 : n9 ≤ maxLen := Nat.le_trans hc9 hm9
  have hh9 : ∀ k, has us9 k = (has xs k && has ys k) := fun k => by rw [hs9.2.2]
  have hv9 : n9 ≤ 1048576 := by omega
  have hw9 := hs9.1
  have hb9 : n9 ≤ 100 := by omega
  clear hl9 hs9
  go_wp2_with fail
  refine (and_ D9 C n9 c9 p r us9 zs w9 hv9 hp hr9 hZ).mono ?_
  rintro e w10 ⟨D10, n10, c10, us10, rfl, hs10, hr10, hc10, hm10, hl10, hb⟩
  replace hX := hX.below hb
  replace hY := hY.below hb
  replace hZ := hZ.below hb
  replace hr9 := hr9.below hb
  replace hT := hT.later hb
  replace HB := HB.trans (hb.mono HB.size)
  clear hb
  have hk10 : n10 ≤ maxLen := Nat.le_trans hc10 hm10
  have hh10 : ∀ k, has us10 k = ((has xs k && has ys k) && has zs k) := fun k => by rw [hs10.2.2]; simp only [hh9]
  have hv10 : n10 ≤ 1048576 := by omega
  have hw10 := hs10.1
  have hb10 : n10 ≤ 100 := by omega
  clear hl10 hs10
  go_wp2_with fail
  refine (and_ B C m d p r ys zs w10 hm hp hY hZ).mono ?_
  rintro e w11 ⟨D11, n11, c11, us11, rfl, hs11, hr11, hc11, hm11, hl11, hb⟩
  replace hX := hX.below hb
  replace hY := hY.below hb
  replace hZ := hZ.below hb
  replace hr9 := hr9.below hb
  replace hr10 := hr10.below hb
  replace hT := hT.later hb
  replace HB := HB.trans (hb.mono HB.size)
  clear hb
  have hk11 : n11 ≤ maxLen := Nat.le_trans hc11 hm11
  have hh11 : ∀ k, has us11 k = (has ys k && has zs k) := fun k => by rw [hs11.2.2]
  have hv11 : n11 ≤ 1048576 := by omega
  have hw11 := hs11.1
  have hb11 : n11 ≤ 100 := by omega
  clear hl11 hs11
  go_wp2_with fail
  refine (and_ A D11 n c n11 c11 xs us11 w11 hn hv11 hX hr11).mono ?_
  rintro e w12 ⟨D12, n12, c12, us12, rfl, hs12, hr12, hc12, hm12, hl12, hb⟩
  replace hX := hX.below hb
  replace hY := hY.below hb
  replace hZ := hZ.below hb
  replace hr9 := hr9.below hb
  replace hr10 := hr10.below hb
  replace hr11 := hr11.below hb
  replace hT := hT.later hb
  replace HB := HB.trans (hb.mono HB.size)
  clear hb
  have hk12 : n12 ≤ maxLen := Nat.le_trans hc12 hm12
  have hh12 : ∀ k, has us12 k = (has xs k && (has ys k && has zs k)) := fun k => by rw [hs12.2.2]; simp only [hh11]
  have hv12 : n12 ≤ 1048576 := by omega
  have hw12 := hs12.1
  have hb12 : n12 ≤ 100 := by omega
  clear hl12 hs12
  have hsm : same us10 us12 = true := (same_iff hw10 hw12).2 (fun k => by simp only [hh10, hh12]; cases has xs k <;> cases has ys k <;> cases has zs k <;> rfl)
  have hc := same_ D10 D12 n10 c10 n12 c12 us10 us12 w12 hk10 hk12 hr10 hr12
  rw [hsm] at hc
  clear hsm
  go_wp2_with fail
  refine (hc).mono ?_
  rintro e w' ⟨rfl, rfl⟩
  clear hc
  clear hr10
  clear hh10 hv10 hw10 hk10 hb10
  clear hr9
  clear hh9 hv9 hw9 hk9 hb9
  clear hr12
  clear hh12 hv12 hw12 hk12 hb12
  clear hr11
  clear hh11 hv11 hw11 hk11 hb11
  go_wp2_with fail
  refine (or_ B C m d p r ys zs w12 hm hp hY hZ).mono ?_
  rintro e w13 ⟨D13, n13, c13, us13, rfl, hs13, hr13, hc13, hm13, hl13, hb⟩
  replace hX := hX.below hb
  replace hY := hY.below hb
  replace hZ := hZ.below hb
  replace hT := hT.later hb
  replace HB := HB.trans (hb.mono HB.size)
  clear hb
  have hk13 : n13 ≤ maxLen := Nat.le_trans hc13 hm13
  have hh13 : ∀ k, has us13 k = (has ys k || has zs k) := fun k => by rw [hs13.2.2]
  have hv13 : n13 ≤ 1048576 := by omega
  have hw13 := hs13.1
  have hb13 : n13 ≤ 100 := by omega
  clear hl13 hs13
  go_wp2_with fail
  refine (and_ A D13 n c n13 c13 xs us13 w13 hn hv13 hX hr13).mono ?_
  rintro e w14 ⟨D14, n14, c14, us14, rfl, hs14, hr14, hc14, hm14, hl14, hb⟩
  replace hX := hX.below hb
  replace hY := hY.below hb
  replace hZ := hZ.below hb
  replace hr13 := hr13.below hb
  replace hT := hT.later hb
  replace HB := HB.trans (hb.mono HB.size)
  clear hb
  have hk14 : n14 ≤ maxLen := Nat.le_trans hc14 hm14
  have hh14 : ∀ k, has us14 k = (has xs k && (has ys k || has zs k)) := fun k => by rw [hs14.2.2]; simp only [hh13]
  have hv14 : n14 ≤ 1048576 := by omega
  have hw14 := hs14.1
  have hb14 : n14 ≤ 100 := by omega
  clear hl14 hs14
  go_wp2_with fail
  refine (and_ A B n c m d xs ys w14 hn hm hX hY).mono ?_
  rintro e w15 ⟨D15, n15, c15, us15, rfl, hs15, hr15, hc15, hm15, hl15, hb⟩
  replace hX := hX.below hb
  replace hY := hY.below hb
  replace hZ := hZ.below hb
  replace hr13 := hr13.below hb
  replace hr14 := hr14.below hb
  replace hT := hT.later hb
  replace HB := HB.trans (hb.mono HB.size)
  clear hb
  have hk15 : n15 ≤ maxLen := Nat.le_trans hc15 hm15
  have hh15 : ∀ k, has us15 k = (has xs k && has ys k) := fun k => by rw [hs15.2.2]
  have hv15 : n15 ≤ 1048576 := by omega
  have hw15 := hs15.1
  have hb15 : n15 ≤ 100 := by omega
  clear hl15 hs15
  go_wp2_with fail
  refine (and_ A C n c p r xs zs w15 hn hp hX hZ).mono ?_
  rintro e w16 ⟨D16, n16, c16, us16, rfl, hs16, hr16, hc16, hm16, hl16, hb⟩
  replace hX := hX.below hb
  replace hY := hY.below hb
  replace hZ := hZ.below hb
  replace hr13 := hr13.below hb
  replace hr14 := hr14.below hb
  replace hr15 := hr15.below hb
  replace hT := hT.later hb
  replace HB := HB.trans (hb.mono HB.size)
  clear hb
  have hk16 : n16 ≤ maxLen := Nat.le_trans hc16 hm16
  have hh16 : ∀ k, has us16 k = (has xs k && has zs k) := fun k => by rw [hs16.2.2]
  have hv16 : n16 ≤ 1048576 := by omega
  have hw16 := hs16.1
  have hb16 : n16 ≤ 100 := by omega
  clear hl16 hs16
  go_wp2_with fail
  refine (or_ D15 D16 n15 c15 n16 c16 us15 us16 w16 hv15 hv16 hr15 hr16).mono ?_
  rintro e w17 ⟨D17, n17, c17, us17, rfl, hs17, hr17, hc17, hm17, hl17, hb⟩
  replace hX := hX.below hb
  replace hY := hY.below hb
  replace hZ := hZ.below hb
  replace hr13 := hr13.below hb
  replace hr14 := hr14.below hb
  replace hr15 := hr15.below hb
  replace hr16 := hr16.below hb
  replace hT := hT.later hb
  replace HB := HB.trans (hb.mono HB.size)
  clear hb
  have hk17 : n17 ≤ maxLen := Nat.le_trans hc17 hm17
  have hh17 : ∀ k, has us17 k = ((has xs k && has ys k) || (has xs k && has zs k)) := fun k => by rw [hs17.2.2]; simp only [hh15, hh16]
  have hv17 : n17 ≤ 1048576 := by omega
  have hw17 := hs17.1
  have hb17 : n17 ≤ 100 := by omega
  clear hl17 hs17
  have hsm : same us14 us17 = true := (same_iff hw14 hw17).2 (fun k => by simp only [hh14, hh17]; cases has xs k <;> cases has ys k <;> cases has zs k <;> rfl)
  have hc := same_ D14 D17 n14 c14 n17 c17 us14 us17 w17 hk14 hk17 hr14 hr17
  rw [hsm] at hc
  clear hsm
  go_wp2_with fail
  refine (hc).mono ?_
  rintro e w' ⟨rfl, rfl⟩
  clear hc
  clear hr14
  clear hh14 hv14 hw14 hk14 hb14
  clear hr13
  clear hh13 hv13 hw13 hk13 hb13
  clear hr17
  clear hh17 hv17 hw17 hk17 hb17
  clear hr15
  clear hh15 hv15 hw15 hk15 hb15
  clear hr16
  clear hh16 hv16 hw16 hk16 hb16
  go_wp2_with fail
  refine (and_ B C m d p r ys zs w17 hm hp hY hZ).mono ?_
  rintro e w18 ⟨D18, n18, c18, us18, rfl, hs18, hr18, hc18, hm18, hl18, hb⟩
  replace hX := hX.below hb
  replace hY := hY.below hb
  replace hZ := hZ.below hb
  replace hT := hT.later hb
  replace HB := HB.trans (hb.mono HB.size)
  clear hb
  have hk18 : n18 ≤ maxLen := Nat.le_trans hc18 hm18
  have hh18 : ∀ k, has us18 k = (has ys k && has zs k) := fun k => by rw [hs18.2.2]
  have hv18 : n18 ≤ 1048576 := by omega
  have hw18 := hs18.1
  have hb18 : n18 ≤ 100 := by omega
  clear hl18 hs18
  go_wp2_with fail
  refine (or_ A D18 n c n18 c18 xs us18 w18 hn hv18 hX hr18).mono ?_
  rintro e w19 ⟨D19, n19, c19, us19, rfl, hs19, hr19, hc19, hm19, hl19, hb⟩
  replace hX := hX.below hb
  replace hY := hY.below hb
  replace hZ := hZ.below hb
  replace hr18 := hr18.below hb
  replace hT := hT.later hb
  replace HB := HB.trans (hb.mono HB.size)
  clear hb
  have hk19 : n19 ≤ maxLen := Nat.le_trans hc19 hm19
  have hh19 : ∀ k, has us19 k = (has xs k || (has ys k && has zs k)) := fun k => by rw [hs19.2.2]; simp only [hh18]
  have hv19 : n19 ≤ 1048576 := by omega
  have hw19 := hs19.1
  have hb19 : n19 ≤ 100 := by omega
  clear hl19 hs19
  go_wp2_with fail
  refine (or_ A B n c m d xs ys w19 hn hm hX hY).mono ?_
  rintro e w20 ⟨D20, n20, c20, us20, rfl, hs20, hr20, hc20, hm20, hl20, hb⟩
  replace hX := hX.below hb
  replace hY := hY.below hb
  replace hZ := hZ.below hb
  replace hr18 := hr18.below hb
  replace hr19 := hr19.below hb
  replace hT := hT.later hb
  replace HB := HB.trans (hb.mono HB.size)
  clear hb
  have hk20 : n20 ≤ maxLen := Nat.le_trans hc20 hm20
  have hh20 : ∀ k, has us20 k = (has xs k || has ys k) := fun k => by rw [hs20.2.2]
  have hv20 : n20 ≤ 1048576 := by omega
  have hw20 := hs20.1
  have hb20 : n20 ≤ 100 := by omega
  clear hl20 hs20
  go_wp2_with fail
  refine (or_ A C n c p r xs zs w20 hn hp hX hZ).mono ?_
  rintro e w21 ⟨D21, n21, c21, us21, rfl, hs21, hr21, hc21, hm21, hl21, hb⟩
  replace hX := hX.below hb
  replace hY := hY.below hb
  replace hZ := hZ.below hb
  replace hr18 := hr18.below hb
  replace hr19 := hr19.below hb
  replace hr20 := hr20.below hb
  replace hT := hT.later hb
  replace HB := HB.trans (hb.mono HB.size)
  clear hb
  have hk21 : n21 ≤ maxLen := Nat.le_trans hc21 hm21
  have hh21 : ∀ k, has us21 k = (has xs k || has zs k) := fun k => by rw [hs21.2.2]
  have hv21 : n21 ≤ 1048576 := by omega
  have hw21 := hs21.1
  have hb21 : n21 ≤ 100 := by omega
  clear hl21 hs21
  go_wp2_with fail
  refine (and_ D20 D21 n20 c20 n21 c21 us20 us21 w21 hv20 hv21 hr20 hr21).mono ?_
  rintro e w22 ⟨D22, n22, c22, us22, rfl, hs22, hr22, hc22, hm22, hl22, hb⟩
  replace hX := hX.below hb
  replace hY := hY.below hb
  replace hZ := hZ.below hb
  replace hr18 := hr18.below hb
  replace hr19 := hr19.below hb
  replace hr20 := hr20.below hb
  replace hr21 := hr21.below hb
  replace hT := hT.later hb
  replace HB := HB.trans (hb.mono HB.size)
  clear hb
  have hk22 : n22 ≤ maxLen := Nat.le_trans hc22 hm22
  have hh22 : ∀ k, has us22 k = ((has xs k || has ys k) && (has xs k || has zs k)) := fun k => by rw [hs22.2.2]; simp only [hh20, hh21]
  have hv22 : n22 ≤ 1048576 := by omega
  have hw22 := hs22.1
  have hb22 : n22 ≤ 100 := by omega
  clear hl22 hs22
  have hsm : same us19 us22 = true := (same_iff hw19 hw22).2 (fun k => by simp only [hh19, hh22]; cases has xs k <;> cases has ys k <;> cases has zs k <;> rfl)
  have hc := same_ D19 D22 n19 c19 n22 c22 us19 us22 w22 hk19 hk22 hr19 hr22
  rw [hsm] at hc
  clear hsm
  go_wp2_with fail
  refine (hc).mono ?_
  rintro e w' ⟨rfl, rfl⟩
  clear hc
  clear hr19
  clear hh19 hv19 hw19 hk19 hb19
  clear hr18
  clear hh18 hv18 hw18 hk18 hb18
  clear hr22
  clear hh22 hv22 hw22 hk22 hb22
  clear hr20
  clear hh20 hv20 hw20 hk20 hb20
  clear hr21
  clear hh21 hv21 hw21 hk21 hb21
  go_wp2_with fail
  refine (less_ A B n c m d xs ys w22 hn hm hX hY).mono ?_
  rintro e w23 ⟨D23, n23, c23, us23, rfl, hs23, hr23, hc23, hm23, hl23, hb⟩
  replace hX := hX.below hb
  replace hY := hY.below hb
  replace hZ := hZ.below hb
  replace hT := hT.later hb
  replace HB := HB.trans (hb.mono HB.size)
  clear hb
  have hk23 : n23 ≤ maxLen := Nat.le_trans hc23 hm23
  have hh23 : ∀ k, has us23 k = (has xs k && !has ys k) := fun k => by rw [hs23.2.2]
  have hv23 : n23 ≤ 1048576 := by omega
  have hw23 := hs23.1
  have hb23 : n23 ≤ 100 := by omega
  clear hl23 hs23
  go_wp2_with fail
  refine (and_ A B n c m d xs ys w23 hn hm hX hY).mono ?_
  rintro e w24 ⟨D24, n24, c24, us24, rfl, hs24, hr24, hc24, hm24, hl24, hb⟩
  replace hX := hX.below hb
  replace hY := hY.below hb
  replace hZ := hZ.below hb
  replace hr23 := hr23.below hb
  replace hT := hT.later hb
  replace HB := HB.trans (hb.mono HB.size)
  clear hb
  have hk24 : n24 ≤ maxLen := Nat.le_trans hc24 hm24
  have hh24 : ∀ k, has us24 k = (has xs k && has ys k) := fun k => by rw [hs24.2.2]
  have hv24 : n24 ≤ 1048576 := by omega
  have hw24 := hs24.1
  have hb24 : n24 ≤ 100 := by omega
  clear hl24 hs24
  go_wp2_with fail
  refine (or_ D23 D24 n23 c23 n24 c24 us23 us24 w24 hv23 hv24 hr23 hr24).mono ?_
  rintro e w25 ⟨D25, n25, c25, us25, rfl, hs25, hr25, hc25, hm25, hl25, hb⟩
  replace hX := hX.below hb
  replace hY := hY.below hb
  replace hZ := hZ.below hb
  replace hr23 := hr23.below hb
  replace hr24 := hr24.below hb
  replace hT := hT.later hb
  replace HB := HB.trans (hb.mono HB.size)
  clear hb
  have hk25 : n25 ≤ maxLen := Nat.le_trans hc25 hm25
  have hh25 : ∀ k, has us25 k = ((has xs k && !has ys k) || (has xs k && has ys k)) := fun k => by rw [hs25.2.2]; simp only [hh23, hh24]
  have hv25 : n25 ≤ 1048576 := by omega
  have hw25 := hs25.1
  have hb25 : n25 ≤ 100 := by omega
  clear hl25 hs25
  have hsm : same us25 xs = true := (same_iff hw25 hwx).2 (fun k => by simp only [hh25]; cases has xs k <;> cases has ys k <;> cases has zs k <;> rfl)
  have hc := same_ D25 A n25 c25 n c us25 xs w25 hk25 hn63 hr25 hX
  rw [hsm] at hc
  clear hsm
  go_wp2_with fail
  refine (hc).mono ?_
  rintro e w' ⟨rfl, rfl⟩
  clear hc
  clear hr25
  clear hh25 hv25 hw25 hk25 hb25
  clear hr23
  clear hh23 hv23 hw23 hk23 hb23
  clear hr24
  clear hh24 hv24 hw24 hk24 hb24
  go_wp2_with fail
  refine (less_ A B n c m d xs ys w25 hn hm hX hY).mono ?_
  rintro e w26 ⟨D26, n26, c26, us26, rfl, hs26, hr26, hc26, hm26, hl26, hb⟩
  replace hX := hX.below hb
  replace hY := hY.below hb
  replace hZ := hZ.below hb
  replace hT := hT.later hb
  replace HB := HB.trans (hb.mono HB.size)
  clear hb
  have hk26 : n26 ≤ maxLen := Nat.le_trans hc26 hm26
  have hh26 : ∀ k, has us26 k = (has xs k && !has ys k) := fun k => by rw [hs26.2.2]
  have hv26 : n26 ≤ 1048576 := by omega
  have hw26 := hs26.1
  have hb26 : n26 ≤ 100 := by omega
  clear hl26 hs26
  go_wp2_with fail
  refine (and_ D26 B n26 c26 m d us26 ys w26 hv26 hm hr26 hY).mono ?_
  rintro e w27 ⟨D27, n27, c27, us27, rfl, hs27, hr27, hc27, hm27, hl27, hb⟩
  replace hX := hX.below hb
  replace hY := hY.below hb
  replace hZ := hZ.below hb
  replace hr26 := hr26.below hb
  replace hT := hT.later hb
  replace HB := HB.trans (hb.mono HB.size)
  clear hb
  have hk27 : n27 ≤ maxLen := Nat.le_trans hc27 hm27
  have hh27 : ∀ k, has us27 k = ((has xs k && !has ys k) && has ys k) := fun k => by rw [hs27.2.2]; simp only [hh26]
  have hv27 : n27 ≤ 1048576 := by omega
  have hw27 := hs27.1
  have hb27 : n27 ≤ 100 := by omega
  clear hl27 hs27
  have ht0 : total us27 = 0 := total_none (fun k => by simp only [hh27]; cases has xs k <;> cases has ys k <;> cases has zs k <;> rfl)
  have hc := count_ D27 n27 c27 us27 w27 hv27 hr27
  rw [ht0] at hc
  go_wp2_with fail
  refine (hc).mono ?_
  rintro e w' ⟨rfl, rfl⟩
  clear hc
  clear ht0
  clear hr27
  clear hh27 hv27 hw27 hk27 hb27
  clear hr26
  clear hh26 hv26 hw26 hk26 hb26
  go_wp2_with fail
  refine (or_ A B n c m d xs ys w27 hn hm hX hY).mono ?_
  rintro e w28 ⟨D28, n28, c28, us28, rfl, hs28, hr28, hc28, hm28, hl28, hb⟩
  replace hX := hX.below hb
  replace hY := hY.below hb
  replace hZ := hZ.below hb
  replace hT := hT.later hb
  replace HB := HB.trans (hb.mono HB.size)
  clear hb
  have hk28 : n28 ≤ maxLen := Nat.le_trans hc28 hm28
  have hh28 : ∀ k, has us28 k = (has xs k || has ys k) := fun k => by rw [hs28.2.2]
  have hv28 : n28 ≤ 1048576 := by omega
  have hw28 := hs28.1
  have hb28 : n28 ≤ 100 := by omega
  clear hl28 hs28
  have hlt1 : total us28 ≤ 64 * 100 := by have := total_le us28; have := hr28.len; omega
  obtain ⟨t1, ht1⟩ : ∃ t, total us28 = t := ⟨_, rfl⟩
  rw [ht1] at hlt1
  have hc := count_ D28 n28 c28 us28 w28 hv28 hr28
  rw [ht1] at hc
  go_wp2_with fail
  refine (hc).mono ?_
  rintro e w' ⟨rfl, rfl⟩
  clear hc
  go_wp2_with fail
  refine (and_ A B n c m d xs ys w28 hn hm hX hY).mono ?_
  rintro e w29 ⟨D29, n29, c29, us29, rfl, hs29, hr29, hc29, hm29, hl29, hb⟩
  replace hX := hX.below hb
  replace hY := hY.below hb
  replace hZ := hZ.below hb
  replace hr28 := hr28.below hb
  replace hT := hT.later hb
  replace HB := HB.trans (hb.mono HB.size)
  clear hb
  have hk29 : n29 ≤ maxLen := Nat.le_trans hc29 hm29
  have hh29 : ∀ k, has us29 k = (has xs k && has ys k) := fun k => by rw [hs29.2.2]
  have hv29 : n29 ≤ 1048576 := by omega
  have hw29 := hs29.1
  have hb29 : n29 ≤ 100 := by omega
  clear hl29 hs29
  have hlt2 : total us29 ≤ 64 * 100 := by have := total_le us29; have := hr29.len; omega
  obtain ⟨t2, ht2⟩ : ∃ t, total us29 = t := ⟨_, rfl⟩
  rw [ht2] at hlt2
  have hlt3 : total xs ≤ 64 * 100 := by have := total_le xs; have := hX.len; omega
  obtain ⟨t3, ht3⟩ : ∃ t, total xs = t := ⟨_, rfl⟩
  rw [ht3] at hlt3
  have hlt4 : total ys ≤ 64 * 100 := by have := total_le ys; have := hY.len; omega
  obtain ⟨t4, ht4⟩ : ∃ t, total ys = t := ⟨_, rfl⟩
  rw [ht4] at hlt4
  have hsum : (t1 : Int) + (t2 : Int) = (t3 : Int) + (t4 : Int) := by have := total_both (a := xs) (b := ys) hh28 hh29; omega
  have HT1 := Lib.hid ht1
  clear ht1
  have HSUM := Lib.hid hsum
  clear hsum
  have hc := count_ D29 n29 c29 us29 w29 hv29 hr29
  rw [ht2] at hc
  go_wp2_with fail
  refine (hc).mono ?_
  rintro e w' ⟨rfl, rfl⟩
  clear hc
  clear ht2
  clear hr28
  clear hh28 hv28 hw28 hk28 hb28
  clear hr29
  clear hh29 hv29 hw29 hk29 hb29
  have hc := count_ A n c xs w29 hn hX
  rw [ht3] at hc
  go_wp2_with fail
  refine (hc).mono ?_
  rintro e w' ⟨rfl, rfl⟩
  clear hc
  have hc := count_ B m d ys w29 hm hY
  rw [ht4] at hc
  go_wp2_with fail
  refine (hc).mono ?_
  rintro e w' ⟨rfl, rfl⟩
  clear hc
  clear ht3 ht4
  have hsum := HSUM.out
  go_wp2_with fail
  refine (within_ A B n c m d xs ys w29 hn63 hX hY).mono ?_
  rintro e w' ⟨rfl, rfl⟩
  clear hsum HSUM HT1 hlt1 hlt2 hlt3 hlt4
  go_wp2_with fail
  refine (or_ A B n c m d xs ys w29 hn hm hX hY).mono ?_
  rintro e w30 ⟨D30, n30, c30, us30, rfl, hs30, hr30, hc30, hm30, hl30, hb⟩
  replace hX := hX.below hb
  replace hY := hY.below hb
  replace hZ := hZ.below hb
  replace hT := hT.later hb
  replace HB := HB.trans (hb.mono HB.size)
  clear hb
  have hk30 : n30 ≤ maxLen := Nat.le_trans hc30 hm30
  have hh30 : ∀ k, has us30 k = (has xs k || has ys k) := fun k => by rw [hs30.2.2]
  have hv30 : n30 ≤ 1048576 := by omega
  have hw30 := hs30.1
  have hb30 : n30 ≤ 100 := by omega
  clear hl30 hs30
  have hsm : same us30 ys = within xs ys := by
    rw [Bool.eq_iff_iff, same_iff hw30 hwy, within_iff hwx]
    constructor
    · intro h k hk
      rw [← h k, hh30, hk]; rfl
    · intro h k
      rw [hh30]
      cases e : has xs k
      · rfl
      · rw [h k e]; rfl
  have hc := same_ D30 B n30 c30 m d us30 ys w30 hk30 hm63 hr30 hY
  rw [hsm] at hc
  clear hsm
  go_wp2_with fail
  refine (hc).mono ?_
  rintro e w' ⟨rfl, rfl⟩
  clear hc
  clear hr30
  clear hh30 hv30 hw30 hk30 hb30
  go_wp2_with fail
  refine (awake w30 hT).mono ?_
  rintro e wl ⟨rfl, hb⟩
  replace HB := HB.trans (hb.mono HB.size)
  clear hb hX hY hZ hT
  go_wp2
  go_ret
  exact ⟨rfl, HB⟩
end Go.Proofs.YtmmlnfffnfjjnaaDoor.BitsWalks
