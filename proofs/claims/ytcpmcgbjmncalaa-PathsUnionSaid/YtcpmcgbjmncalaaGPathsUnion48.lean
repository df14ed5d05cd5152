/-
  The law PathsUnion (stage 14). By an AI agent. (Written by wip/tools/genlaw3_14.py.)
-/
import Derived.Test.YtcpmcgbjmncalaaGPathsUnion36
import Derived.Test.YtcpmcgbjmncalaaGPathsUnion42
import Derived.Test.YtcpmcgbjmncalaaGPathsUnion47
import Derived.Test.YtcpmcgbjmncalaaGPathsUnion19
namespace Go.Proofs.Ytcpmcgbjmncalaa.Paths
open Go.RowKit Go.Shelf Go.Proofs.Ytcpmcgbjmncalaa.Ints Go.Proofs.Ytcpmcgbjmncalaa.Mem Go.Proofs.Ytcpmcgbjmncalaa.Src Go.Proofs.Ytcpmcgbjmncalaa.Tree Go.Proofs.Ytcpmcgbjmncalaa.BitsWalks Go.Proofs.Ytcpmcgbjmncalaa.RdW Go.Proofs.Ytcpmcgbjmncalaa.Words

theorem RdV.front {w : World} {V : Option Addr} {n m : Nat} {vs : Nat → List Nat} (h : RdV w V n vs) (hm : m ≤ n) : RdV w V m vs := fun h0 => by
  obtain ⟨b, off, e, hc⟩ := h (by omega)
  exact ⟨b, off, e, fun i hi => hc i (by omega)⟩
set_option maxHeartbeats 32000000 in
set_option maxRecDepth 100000 in
theorem lawUnion (Z1 Z2 : Option Addr) (m1 d1 m2 d2 : Nat) (zs1 zs2 : List Int) (V1 V2 : Option Addr) (q1 e1 q2 e2 : Nat) (xs1 xs2 : List Nat) (w : World) (hz1 : Rd .u16 w Z1 m1 zs1) (hm1 : m1 ≤ maxLen) (hz2 : Rd .u16 w Z2 m2 zs2) (hm2 : m2 ≤ maxLen) (hv1 : RdW w V1 q1 xs1) (hq1 : q1 ≤ maxLen) (hv2 : RdW w V2 q2 xs2) (hq2 : q2 ≤ maxLen) :
    Calls Try.prog 5 #[.slice Z1 m1 d1, .slice Z2 m2 d2, .slice V1 q1 e1, .slice V2 q2 e2] w fun e w' => e = .returned (.bool true) ∧ Below w.heap.size w w' := by
  have HGA := Lib.hid (reg_ok false zs1 (fun z hzz => wf_u16 (hz1.all z hzz)))
  have HGB := Lib.hid (reg_ok false zs2 (fun z hzz => wf_u16 (hz2.all z hzz)))
  have HREGA := Lib.hid (lawReg Z1 m1 d1 zs1 false w hz1 hm1)
  have HREGB := Lib.hid (fun W (hb : Below w.heap.size w W) => lawReg Z2 m2 d2 zs2 false W (hz2.below hb) hm2)
  have HPV := Lib.hid (fun W (hb : Below w.heap.size w W) => lawPoints V1 q1 e1 xs1 W (hv1.below hb) hq1)
  have HPW := Lib.hid (fun W (hb : Below w.heap.size w W) => lawPoints V2 q2 e2 xs2 W (hv2.below hb) hq2)
  obtain ⟨a, hae⟩ : ∃ a, regMk false zs1 = a := ⟨_, rfl⟩
  obtain ⟨b, hbe⟩ : ∃ b, regMk false zs2 = b := ⟨_, rfl⟩
  rw [hae] at HGA HREGA
  rw [hbe] at HGB HREGB
  obtain ⟨N1, hN1⟩ : ∃ N, min q1 9 = N := ⟨_, rfl⟩
  obtain ⟨N2, hN2⟩ : ∃ N, min q2 9 = N := ⟨_, rfl⟩
  rw [hN1] at HPV
  rw [hN2] at HPW
  have hN19 : N1 ≤ 9 := by omega
  have hN29 : N2 ≤ 9 := by omega
  obtain ⟨n, hn⟩ : ∃ n, min N1 N2 = n := ⟨_, rfl⟩
  have hni : min ((N1 : Nat) : Int) ((N2 : Nat) : Int) = ((n : Nat) : Int) := by omega
  have hn9 : n ≤ 9 := by omega
  have hnN1 : n ≤ N1 := by omega
  have hnN2 : n ≤ N2 := by omega
  have hn9i : ((n : Nat) : Int) ≤ 9 := by omega
  have b3 : n ≤ maxLen := by have q63 : maxLen = 9223372036854775807 := rfl; omega
  obtain ⟨vs, hvs⟩ : ∃ vs : Nat → List Nat, (fun i => [wd xs1 i]) = vs := ⟨_, rfl⟩
  obtain ⟨ws, hws⟩ : ∃ ws : Nat → List Nat, (fun i => [wd xs2 i]) = ws := ⟨_, rfl⟩
  rw [hvs] at HPV
  rw [hws] at HPW
  have HLV := Lib.hid (show ∀ i, (vs i).length = 1 from fun i => by rw [← hvs]; rfl)
  have HLW := Lib.hid (show ∀ i, (ws i).length = 1 from fun i => by rw [← hws]; rfl)
  have HRA := Lib.hid (reg_yes HGA.out.1)
  have HRB := Lib.hid (reg_yes HGB.out.1)
  have HT := Lib.hid (tests_len HRA.out)
  obtain ⟨T, hTe⟩ : ∃ T, (placesR a 19).length = T := ⟨_, rfl⟩
  have hT1 : T ≤ 1000 := by rw [← hTe]; exact Nat.le_trans (places_len a 19) (Nat.le_trans HGA.out.2 (by decide))
  have hTi : ((T : Nat) : Int) ≤ 1000 := by omega
  clear hz1 hz2 hv1 hv2 hae hbe hvs hws hN1 hN2
  go_enter Try.func5, Try.ntmps5
  go_wp2_with fail
  refine HREGA.out.mono ?_
  rintro e w1 ⟨A1, c1, rfl, hNA, hc1, -, b1⟩
  have HB1 := Lib.hid b1
  have HA1 := Lib.hid hNA
  clear b1 hNA
  go_wp2_with fail
  refine (HREGB.out w1 HB1.out).mono ?_
  rintro e w2 ⟨A2, c2, rfl, hNB, hc2, -, b2⟩
  have HB2 := Lib.hid (HB1.out.trans (b2.mono HB1.out.size))
  have HA2 := Lib.hid (HA1.out.below b2)
  have HBN2 := Lib.hid hNB
  clear b2 hNB
  go_wp2_with fail
  refine (HPV.out w2 HB2.out).mono ?_
  rintro e w3 ⟨A3, c3, rfl, hV3, hc3, hcm3, b4⟩
  have HB3 := Lib.hid (HB2.out.trans (b4.mono HB2.out.size))
  have HA3 := Lib.hid (HA2.out.below b4)
  have HBN3 := Lib.hid (HBN2.out.below b4)
  have HV3 := Lib.hid hV3
  clear b4 hV3
  go_wp2_with fail
  refine (HPW.out w3 HB3.out).mono ?_
  rintro e w4 ⟨A4, c4, rfl, hV4, hc4, hcm4, b5⟩
  have HB4 := Lib.hid (HB3.out.trans (b5.mono HB3.out.size))
  have HA4 := Lib.hid (HA3.out.below b5)
  have HBN4 := Lib.hid (HBN3.out.below b5)
  have HV4 := Lib.hid (HV3.out.below b5)
  have HW4 := Lib.hid hV4
  clear b5 hV4
  go_wp2_with fail
  refine (refTests A1 a.length c1 a w4 rfl hc1 (Nat.le_trans HGA.out.2 (by decide)) HA4.out).mono ?_
  rintro e w5 ⟨A5, c5, rfl, -, -, -, b6, -⟩
  have HB5 := Lib.hid (HB4.out.trans (b6.mono HB4.out.size))
  have HA5 := Lib.hid (HA4.out.below b6)
  have HBN5 := Lib.hid (HBN4.out.below b6)
  have HV5 := Lib.hid (HV4.out.below b6)
  have HW5 := Lib.hid (HW4.out.below b6)
  clear b6
  rw [hTe]
  go_wp2_with fail
  refine (lawBeside T A3 A4 N1 c3 N2 c4 vs ws w5 hT1 HV5.out HW5.out HLV.out HLW.out hN19 hN29).mono ?_
  rw [hn]
  rintro e w6 ⟨us, ⟨A6, c6, rfl, hU6, hc6, -, b7⟩, hus⟩
  have HUS := Lib.hid (show ∀ i, i < n → ∀ q, has (us i) q = bes (nts (reOf a)) (vs i) (ws i) q from by rw [← HT.out, hTe]; exact hus)
  have HB6 := Lib.hid (HB5.out.trans (b7.mono HB5.out.size))
  have HA6 := Lib.hid (HA5.out.below b7)
  have HBN6 := Lib.hid (HBN5.out.below b7)
  have HV6 := Lib.hid (HV5.out.below b7)
  have HW6 := Lib.hid (HW5.out.below b7)
  have HU6 := Lib.hid hU6
  clear b7 hU6 hus
  have hsu1 := fun W => slice_upto (P := Try.prog) 30 (by kernel_rfl) 1 (by kernel_rfl) A3 N1 c3 n (by omega) W
  have hsu2 := fun W => slice_upto (P := Try.prog) 30 (by kernel_rfl) 1 (by kernel_rfl) A4 N2 c4 n (by omega) W
  have HRX := Lib.hid (fun W (hb : Below w6.heap.size w6 W) => by have h9 := landReach A1 A3 a.length c1 n c3 a vs W rfl hc1 (Nat.le_trans HGA.out.2 (by decide)) (HA6.out.below hb) ((HV6.out.below hb).front hnN1) (by omega); rw [gotR_yes HRA.out] at h9; exact h9)
  have HRY := Lib.hid (fun W (hb : Below w6.heap.size w6 W) => by have h9 := landReach A2 A4 b.length c2 n c4 b ws W rfl hc2 (Nat.le_trans HGB.out.2 (by decide)) (HBN6.out.below hb) ((HW6.out.below hb).front hnN2) (by omega); rw [gotR_yes HRB.out] at h9; exact h9)
  have hn0 : (0 : Int) ≤ ((n : Nat) : Int) := by omega
  have hnc3 : ((n : Nat) : Int) ≤ ((c3 : Nat) : Int) := by omega
  have hnc4 : ((n : Nat) : Int) ≤ ((c4 : Nat) : Int) := by omega
  go_wp2_with fail
  refine wp_region_held_drew (S := fun _ => True) (by kernel_rfl) trivial (fun hHeld => ?_)
  refine wpAnyH_take (i := 0) (oi := ?tko1) (v := ?tkv1) ?tkh1 (by kernel_rfl) (by kernel_rfl) (by kernel_rfl) ?tkq1 ?tky1 hHeld ?tkr1
  case tkh1 => (simp only [List.getElem?_toArray, List.getElem?_cons_zero]; rfl)
  case tkq1 => exact fun _ _ _ h => h
  case tky1 => exact Or.inl ⟨by rfl, by intro wSw hSw; (try dsimp only at hSw); go_simp; try with_reducible rfl⟩
  try simp only [Act.put, List.setIfInBounds_toArray, List.set_cons_zero, List.set_cons_succ]
  refine wpAnyH_take (i := 1) (oi := ?tko2) (v := ?tkv2) ?tkh2 (by kernel_rfl) (by kernel_rfl) (by kernel_rfl) ?tkq2 ?tky2 hHeld ?tkr2
  case tkh2 => (simp only [List.getElem?_toArray, List.getElem?_cons_succ, List.getElem?_cons_zero]; rfl)
  case tkq2 => exact fun _ _ _ h => h
  case tky2 => exact Or.inl ⟨by rfl, by intro wSw hSw; (try dsimp only at hSw); go_simp; try with_reducible rfl⟩
  try simp only [Act.put, List.setIfInBounds_toArray, List.set_cons_zero, List.set_cons_succ]
  refine wpAnyH_take (i := 2) (oi := ?tko3) (v := ?tkv3) ?tkh3 (by kernel_rfl) (by kernel_rfl) (by kernel_rfl) ?tkq3 ?tky3 hHeld ?tkr3
  case tkh3 => (simp only [List.getElem?_toArray, List.getElem?_cons_succ, List.getElem?_cons_zero]; rfl)
  case tkq3 => exact fun _ _ _ h => h
  case tky3 => exact Or.inl ⟨by rfl, by intro wSw hSw; (try dsimp only at hSw); go_simp; try with_reducible rfl⟩
  try simp only [Act.put, List.setIfInBounds_toArray, List.set_cons_zero, List.set_cons_succ]
  refine wpAnyH_take (i := 3) (oi := ?tko4) (v := ?tkv4) ?tkh4 (by kernel_rfl) (by kernel_rfl) (by kernel_rfl) ?tkq4 ?tky4 hHeld ?tkr4
  case tkh4 => (simp only [List.getElem?_toArray, List.getElem?_cons_succ, List.getElem?_cons_zero]; rfl)
  case tkq4 => exact fun _ _ _ h => h
  case tky4 => exact Or.inl ⟨by rfl, by intro wSw hSw; (try dsimp only at hSw); go_simp; try with_reducible rfl⟩
  try simp only [Act.put, List.setIfInBounds_toArray, List.set_cons_zero, List.set_cons_succ]
  refine wpAnyH_take (i := 5) (oi := ?tko5) (v := ?tkv5) ?tkh5 (by kernel_rfl) (by kernel_rfl) (by kernel_rfl) ?tkq5 ?tky5 hHeld ?tkr5
  case tkh5 => (simp only [List.getElem?_toArray, List.getElem?_cons_succ, List.getElem?_cons_zero]; rfl)
  case tkq5 => exact fun _ _ _ h => h
  case tky5 => exact Or.inl ⟨by rfl, by intro wSw hSw; (try dsimp only at hSw); go_simp; try with_reducible rfl⟩
  try simp only [Act.put, List.setIfInBounds_toArray, List.set_cons_zero, List.set_cons_succ]
  refine wpAnyH_take (i := 6) (oi := ?tko6) (v := ?tkv6) ?tkh6 (by kernel_rfl) (by kernel_rfl) (by kernel_rfl) ?tkq6 ?tky6 hHeld ?tkr6
  case tkh6 => (simp only [List.getElem?_toArray, List.getElem?_cons_succ, List.getElem?_cons_zero]; rfl)
  case tkq6 => exact fun _ _ _ h => h
  case tky6 => exact Or.inl ⟨by rfl, by intro wSw hSw; (try dsimp only at hSw); go_simp; try with_reducible rfl⟩
  try simp only [Act.put, List.setIfInBounds_toArray, List.set_cons_zero, List.set_cons_succ]
  refine wpAnyH_take (i := 7) (oi := ?tko7) (v := ?tkv7) ?tkh7 (by kernel_rfl) (by kernel_rfl) (by kernel_rfl) ?tkq7 ?tky7 hHeld ?tkr7
  case tkh7 => (simp only [List.getElem?_toArray, List.getElem?_cons_succ, List.getElem?_cons_zero]; rfl)
  case tkq7 => exact fun _ _ _ h => h
  case tky7 => exact Or.inl ⟨by rfl, by intro wSw hSw; (try dsimp only at hSw); go_simp; try with_reducible rfl⟩
  try simp only [Act.put, List.setIfInBounds_toArray, List.set_cons_zero, List.set_cons_succ]
  refine wpAnyH_take (i := 8) (oi := ?tko8) (v := ?tkv8) ?tkh8 (by kernel_rfl) (by kernel_rfl) (by kernel_rfl) ?tkq8 ?tky8 hHeld ?tkr8
  case tkh8 => (simp only [List.getElem?_toArray, List.getElem?_cons_succ, List.getElem?_cons_zero]; rfl)
  case tkq8 => exact fun _ _ _ h => h
  case tky8 => exact Or.inl ⟨by rfl, by intro wSw hSw; (try dsimp only at hSw); go_simp; try with_reducible rfl⟩
  try simp only [Act.put, List.setIfInBounds_toArray, List.set_cons_zero, List.set_cons_succ]
  refine wpAnyH_ready (rs := [4]) (by kernel_rfl) (by simp) ?_
  refine AllReadyH.cons (o := ?tko9) ?tkh9 (fun Kt9 hKt9 => ?_) AllReadyH.nil
  case tkh9 => (simp only [List.getElem?_toArray, List.getElem?_cons_succ, List.getElem?_cons_zero]; rfl)
  go_simp
  (go_at_call 17; refine (HRX.out _ (Below.refl _ _).drew).mono ?_; rintro e w7 ⟨BX, RX, rfl, hX7, b8⟩)
  refine hKt9.out _ _ ?_ (fun hHt9 => ?_)
  · (trivial)
  clear hKt9 Kt9 hHeld
  have hHeld := hHt9
  clear hHt9
  try simp only [Act.put, List.setIfInBounds_toArray, List.set_cons_zero, List.set_cons_succ]
  have hb8 : Below w6.heap.size w6 w7 := (Below.refl _ _).drew.trans b8
  have HB7 := Lib.hid (HB6.out.trans (hb8.mono HB6.out.size))
  have HA7 := Lib.hid (HA6.out.below hb8)
  have HBN7 := Lib.hid (HBN6.out.below hb8)
  have HV7 := Lib.hid (HV6.out.below hb8)
  have HW7 := Lib.hid (HW6.out.below hb8)
  have HU7 := Lib.hid (HU6.out.below hb8)
  have HX7 := Lib.hid hX7
  refine wpAnyH_ready (rs := [9]) (by kernel_rfl) (by simp) ?_
  refine AllReadyH.cons (o := ?tko10) ?tkh10 (fun Kt10 hKt10 => ?_) AllReadyH.nil
  case tkh10 => (simp only [List.getElem?_toArray, List.getElem?_cons_succ, List.getElem?_cons_zero]; rfl)
  go_simp
  (go_at_call 17; refine (HRY.out w7 hb8).mono ?_; rintro e w8 ⟨BY, RY, rfl, hY8, b9⟩)
  refine hKt10.out _ _ ?_ (fun hHt10 => ?_)
  · (trivial)
  clear hKt10 Kt10 hHeld
  have hHeld := hHt10
  clear hHt10
  try simp only [Act.put, List.setIfInBounds_toArray, List.set_cons_zero, List.set_cons_succ]
  refine wpAnyH_take (i := 10) (oi := ?tko11) (v := ?tkv11) ?tkh11 (by kernel_rfl) (by kernel_rfl) (by kernel_rfl) ?tkq11 ?tky11 hHeld ?tkr11
  case tkh11 => (simp only [List.getElem?_toArray, List.getElem?_cons_succ, List.getElem?_cons_zero]; rfl)
  case tkq11 => exact fun _ _ _ h => h
  case tky11 => exact Or.inl ⟨by rfl, by intro wSw hSw; (try dsimp only at hSw); go_simp; try with_reducible rfl⟩
  try simp only [Act.put, List.setIfInBounds_toArray, List.set_cons_zero, List.set_cons_succ]
  refine wpAnyH_take (i := 11) (oi := ?tko12) (v := ?tkv12) ?tkh12 (by kernel_rfl) (by kernel_rfl) (by kernel_rfl) ?tkq12 ?tky12 hHeld ?tkr12
  case tkh12 => (simp only [List.getElem?_toArray, List.getElem?_cons_succ, List.getElem?_cons_zero]; rfl)
  case tkq12 => exact fun _ _ _ h => h
  case tky12 => exact Or.inl ⟨by rfl, by intro wSw hSw; (try dsimp only at hSw); go_simp; try with_reducible rfl⟩
  try simp only [Act.put, List.setIfInBounds_toArray, List.set_cons_zero, List.set_cons_succ]
  refine wpAnyH_done (by kernel_rfl) ?_ _
  clear hHeld
  have HB8 := Lib.hid (HB7.out.trans (b9.mono HB7.out.size))
  have HA8 := Lib.hid (HA7.out.below b9)
  have HBN8 := Lib.hid (HBN7.out.below b9)
  have HV8 := Lib.hid (HV7.out.below b9)
  have HW8 := Lib.hid (HW7.out.below b9)
  have HU8 := Lib.hid (HU7.out.below b9)
  have HX8 := Lib.hid (HX7.out.below b9)
  have HY8 := Lib.hid hY8
  clear b8 hb8 b9 hX7 hY8 hsu1 HRX HRY
  go_wp2_with fail
  refine (refOver (kindNd 20) none 0 A1 A2 a.length b.length c1 c2 a b Tree.Any _ rfl rfl (Nat.le_trans HGA.out.2 (by decide)) (Nat.le_trans HGB.out.2 (by decide)) (kind_ok _ (by decide)) HA8.out HBN8.out (movable_may (may_of_reg HRB.out) (Nat.le_trans HGB.out.2 (by decide)))).mono ?_
  obtain ⟨L20, hL20⟩ : ∃ L, overL (kindNd 20) a b = L := ⟨_, rfl⟩
  have hLl20 : L20.length ≤ 1048576 := by rw [← hL20, over_len]; have := HGA.out.2; have := HGB.out.2; omega
  have hLr20 : regL L20 = true := by rw [← hL20]; exact reg_two HRA.out HRB.out (.inl rfl)
  rw [hL20]
  rintro e w9 ⟨AO20, cO20, rfl, hNO, hcO, -, bO⟩
  have HB9 := Lib.hid (HB8.out.trans (bO.mono HB8.out.size))
  have HA9 := Lib.hid (HA8.out.below bO)
  have HBN9 := Lib.hid (HBN8.out.below bO)
  have HV9 := Lib.hid (HV8.out.below bO)
  have HW9 := Lib.hid (HW8.out.below bO)
  have HU9 := Lib.hid (HU8.out.below bO)
  have HX9 := Lib.hid (HX8.out.below bO)
  have HY9 := Lib.hid (HY8.out.below bO)
  have HNO20 := Lib.hid (Nodes.any hNO)
  clear hNO bO
  go_wp2_with fail
  refine (landReach AO20 A6 L20.length cO20 n c6 L20 us w9 rfl hcO hLl20 HNO20.out HU9.out (by omega)).mono ?_
  rw [gotR_yes hLr20]
  rintro e w10 ⟨BP, RP, rfl, hTT, bO⟩
  have HB10 := Lib.hid (HB9.out.trans (bO.mono HB9.out.size))
  have HA10 := Lib.hid (HA9.out.below bO)
  have HBN10 := Lib.hid (HBN9.out.below bO)
  have HV10 := Lib.hid (HV9.out.below bO)
  have HW10 := Lib.hid (HW9.out.below bO)
  have HU10 := Lib.hid (HU9.out.below bO)
  have HX10 := Lib.hid (HX9.out.below bO)
  have HY10 := Lib.hid (HY9.out.below bO)
  have HP10 := Lib.hid hTT
  clear bO hTT hcO
  go_wp2_with fail
  refine (refOver (kindNd 21) none 0 A1 A2 a.length b.length c1 c2 a b Tree.Any _ rfl rfl (Nat.le_trans HGA.out.2 (by decide)) (Nat.le_trans HGB.out.2 (by decide)) (kind_ok _ (by decide)) HA10.out HBN10.out (movable_may (may_of_reg HRB.out) (Nat.le_trans HGB.out.2 (by decide)))).mono ?_
  obtain ⟨L21, hL21⟩ : ∃ L, overL (kindNd 21) a b = L := ⟨_, rfl⟩
  have hLl21 : L21.length ≤ 1048576 := by rw [← hL21, over_len]; have := HGA.out.2; have := HGB.out.2; omega
  have hLr21 : regL L21 = true := by rw [← hL21]; exact reg_two HRA.out HRB.out (.inr rfl)
  rw [hL21]
  rintro e w11 ⟨AO21, cO21, rfl, hNO, hcO, -, bO⟩
  have HB11 := Lib.hid (HB10.out.trans (bO.mono HB10.out.size))
  have HA11 := Lib.hid (HA10.out.below bO)
  have HBN11 := Lib.hid (HBN10.out.below bO)
  have HV11 := Lib.hid (HV10.out.below bO)
  have HW11 := Lib.hid (HW10.out.below bO)
  have HU11 := Lib.hid (HU10.out.below bO)
  have HX11 := Lib.hid (HX10.out.below bO)
  have HY11 := Lib.hid (HY10.out.below bO)
  have HP11 := Lib.hid (HP10.out.below bO)
  have HNO21 := Lib.hid (Nodes.any hNO)
  clear hNO bO
  go_wp2_with fail
  refine (landReach AO21 A6 L21.length cO21 n c6 L21 us w11 rfl hcO hLl21 HNO21.out HU11.out (by omega)).mono ?_
  rw [gotR_yes hLr21]
  rintro e w12 ⟨BQ, RQ, rfl, hTT, bO⟩
  have HB12 := Lib.hid (HB11.out.trans (bO.mono HB11.out.size))
  have HA12 := Lib.hid (HA11.out.below bO)
  have HBN12 := Lib.hid (HBN11.out.below bO)
  have HV12 := Lib.hid (HV11.out.below bO)
  have HW12 := Lib.hid (HW11.out.below bO)
  have HU12 := Lib.hid (HU11.out.below bO)
  have HX12 := Lib.hid (HX11.out.below bO)
  have HY12 := Lib.hid (HY11.out.below bO)
  have HP12 := Lib.hid (HP11.out.below bO)
  have HQ12 := Lib.hid hTT
  clear bO hTT hcO
  have HOV := Lib.hid (fun W (hb : Below w12.heap.size w12 W) => refOver (kindNd 22) none 0 A1 none a.length 0 c1 0 a [] Tree.Any W rfl rfl (Nat.le_trans HGA.out.2 (by decide)) (by decide) (kind_ok _ (by decide)) (HA12.out.below hb) (Nodes.nil _ _ _) movable_nil)
  obtain ⟨M, hM⟩ : ∃ M, overL (kindNd 22) a [] = M := ⟨_, rfl⟩
  have hMl : M.length ≤ 1048576 := by rw [← hM, over_len]; have := HGA.out.2; show a.length + 0 + 1 ≤ _; omega
  have hMr : regL M = true := by rw [← hM]; exact reg_one HRA.out rfl
  rw [hM] at HOV
  have hsu1 := fun W => slice_upto (P := Try.prog) 30 (by kernel_rfl) 1 (by kernel_rfl) A3 N1 c3 n (by omega) W
  go_wp2_with fail
  refine wp_region_held_drew (S := fun _ => True) (by kernel_rfl) trivial (fun hHeld => ?_)
  refine wpAnyH_take (i := 0) (oi := ?tko13) (v := ?tkv13) ?tkh13 (by kernel_rfl) (by kernel_rfl) (by kernel_rfl) ?tkq13 ?tky13 hHeld ?tkr13
  case tkh13 => (simp only [List.getElem?_toArray, List.getElem?_cons_zero]; rfl)
  case tkq13 => exact fun _ _ _ h => h
  case tky13 => exact Or.inl ⟨by rfl, by intro wSw hSw; (try dsimp only at hSw); go_simp; try with_reducible rfl⟩
  try simp only [Act.put, List.setIfInBounds_toArray, List.set_cons_zero, List.set_cons_succ]
  refine wpAnyH_take (i := 1) (oi := ?tko14) (v := ?tkv14) ?tkh14 (by kernel_rfl) (by kernel_rfl) (by kernel_rfl) ?tkq14 ?tky14 hHeld ?tkr14
  case tkh14 => (simp only [List.getElem?_toArray, List.getElem?_cons_succ, List.getElem?_cons_zero]; rfl)
  case tkq14 => exact fun _ _ _ h => h
  case tky14 => exact Or.inl ⟨by rfl, by intro wSw hSw; (try dsimp only at hSw); go_simp; try with_reducible rfl⟩
  try simp only [Act.put, List.setIfInBounds_toArray, List.set_cons_zero, List.set_cons_succ]
  refine wpAnyH_take (i := 3) (oi := ?tko15) (v := ?tkv15) ?tkh15 (by kernel_rfl) (by kernel_rfl) (by kernel_rfl) ?tkq15 ?tky15 hHeld ?tkr15
  case tkh15 => (simp only [List.getElem?_toArray, List.getElem?_cons_succ, List.getElem?_cons_zero]; rfl)
  case tkq15 => exact fun _ _ _ h => h
  case tky15 => exact Or.inl ⟨by rfl, by intro wSw hSw; (try dsimp only at hSw); go_simp; try with_reducible rfl⟩
  try simp only [Act.put, List.setIfInBounds_toArray, List.set_cons_zero, List.set_cons_succ]
  refine wpAnyH_take (i := 4) (oi := ?tko16) (v := ?tkv16) ?tkh16 (by kernel_rfl) (by kernel_rfl) (by kernel_rfl) ?tkq16 ?tky16 hHeld ?tkr16
  case tkh16 => (simp only [List.getElem?_toArray, List.getElem?_cons_succ, List.getElem?_cons_zero]; rfl)
  case tkq16 => exact fun _ _ _ h => h
  case tky16 => exact Or.inl ⟨by rfl, by intro wSw hSw; (try dsimp only at hSw); go_simp; try with_reducible rfl⟩
  try simp only [Act.put, List.setIfInBounds_toArray, List.set_cons_zero, List.set_cons_succ]
  refine wpAnyH_take (i := 5) (oi := ?tko17) (v := ?tkv17) ?tkh17 (by kernel_rfl) (by kernel_rfl) (by kernel_rfl) ?tkq17 ?tky17 hHeld ?tkr17
  case tkh17 => (simp only [List.getElem?_toArray, List.getElem?_cons_succ, List.getElem?_cons_zero]; rfl)
  case tkq17 => exact fun _ _ _ h => h
  case tky17 => exact Or.inl ⟨by rfl, by intro wSw hSw; (try dsimp only at hSw); go_simp; try with_reducible rfl⟩
  try simp only [Act.put, List.setIfInBounds_toArray, List.set_cons_zero, List.set_cons_succ]
  refine wpAnyH_ready (rs := [2]) (by kernel_rfl) (by simp) ?_
  refine AllReadyH.cons (o := ?tko18) ?tkh18 (fun Kt18 hKt18 => ?_) AllReadyH.nil
  case tkh18 => (simp only [List.getElem?_toArray, List.getElem?_cons_succ, List.getElem?_cons_zero]; rfl)
  go_simp
  (go_at_call 21; refine (HOV.out _ (Below.refl _ _).drew).mono ?_; rintro e w13 ⟨AM, cM, rfl, hNM, hcM, -, bM⟩)
  refine hKt18.out _ _ ?_ (fun hHt18 => ?_)
  · (trivial)
  clear hKt18 Kt18 hHeld
  have hHeld := hHt18
  clear hHt18
  try simp only [Act.put, List.setIfInBounds_toArray, List.set_cons_zero, List.set_cons_succ]
  have hbM : Below w12.heap.size w12 w13 := (Below.refl _ _).drew.trans bM
  have HB13 := Lib.hid (HB12.out.trans (hbM.mono HB12.out.size))
  have HA13 := Lib.hid (HA12.out.below hbM)
  have HBN13 := Lib.hid (HBN12.out.below hbM)
  have HV13 := Lib.hid (HV12.out.below hbM)
  have HW13 := Lib.hid (HW12.out.below hbM)
  have HU13 := Lib.hid (HU12.out.below hbM)
  have HX13 := Lib.hid (HX12.out.below hbM)
  have HY13 := Lib.hid (HY12.out.below hbM)
  have HP13 := Lib.hid (HP12.out.below hbM)
  have HQ13 := Lib.hid (HQ12.out.below hbM)
  have HNM := Lib.hid (Nodes.any hNM)
  have HRM := Lib.hid (landReach AM A3 M.length cM n c3 M vs w13 rfl hcM hMl HNM.out (HV13.out.front hnN1) (by omega))
  rw [gotR_yes hMr] at HRM
  refine wpAnyH_ready (rs := [6]) (by kernel_rfl) (by simp) ?_
  refine AllReadyH.cons (o := ?tko19) ?tkh19 (fun Kt19 hKt19 => ?_) AllReadyH.nil
  case tkh19 => (simp only [List.getElem?_toArray, List.getElem?_cons_succ, List.getElem?_cons_zero]; rfl)
  go_simp
  (go_at_call 17; refine HRM.out.mono ?_; rintro e w14 ⟨BM, RM, rfl, hTM, bN⟩)
  refine hKt19.out _ _ ?_ (fun hHt19 => ?_)
  · (trivial)
  clear hKt19 Kt19 hHeld
  have hHeld := hHt19
  clear hHt19
  try simp only [Act.put, List.setIfInBounds_toArray, List.set_cons_zero, List.set_cons_succ]
  refine wpAnyH_take (i := 7) (oi := ?tko20) (v := ?tkv20) ?tkh20 (by kernel_rfl) (by kernel_rfl) (by kernel_rfl) ?tkq20 ?tky20 hHeld ?tkr20
  case tkh20 => (simp only [List.getElem?_toArray, List.getElem?_cons_succ, List.getElem?_cons_zero]; rfl)
  case tkq20 => exact fun _ _ _ h => h
  case tky20 => exact Or.inl ⟨by rfl, by intro wSw hSw; (try dsimp only at hSw); go_simp; try with_reducible rfl⟩
  try simp only [Act.put, List.setIfInBounds_toArray, List.set_cons_zero, List.set_cons_succ]
  refine wpAnyH_done (by kernel_rfl) ?_ _
  clear hHeld
  have HB14 := Lib.hid (HB13.out.trans (bN.mono HB13.out.size))
  have HA14 := Lib.hid (HA13.out.below bN)
  have HBN14 := Lib.hid (HBN13.out.below bN)
  have HV14 := Lib.hid (HV13.out.below bN)
  have HW14 := Lib.hid (HW13.out.below bN)
  have HU14 := Lib.hid (HU13.out.below bN)
  have HX14 := Lib.hid (HX13.out.below bN)
  have HY14 := Lib.hid (HY13.out.below bN)
  have HP14 := Lib.hid (HP13.out.below bN)
  have HQ14 := Lib.hid (HQ13.out.below bN)
  have HM14 := Lib.hid hTM
  clear bM hbM bN hTM hNM hcM hsu1 hsu2 HOV HRM
  go_wp2_with fail
  refine (lawSquare (some ⟨BX, 0, none⟩) n n n _ w14 (HX14.out.reads b3) rfl (Nat.le_refl _) (by omega)).mono ?_
  rintro e wqX ⟨rfl, hqX⟩
  have hsX := hqX.symm
  subst hsX
  clear hqX
  go_wp2_with fail
  refine (lawSquare (some ⟨BY, 0, none⟩) n n n _ w14 (HY14.out.reads b3) rfl (Nat.le_refl _) (by omega)).mono ?_
  rintro e wqY ⟨rfl, hqY⟩
  have hsY := hqY.symm
  subst hsY
  clear hqY
  go_wp2_with fail
  refine (lawSquare (some ⟨BP, 0, none⟩) n n n _ w14 (HP14.out.reads b3) rfl (Nat.le_refl _) (by omega)).mono ?_
  rintro e wqP ⟨rfl, hqP⟩
  have hsP := hqP.symm
  subst hsP
  clear hqP
  go_wp2_with fail
  refine (lawSquare (some ⟨BQ, 0, none⟩) n n n _ w14 (HQ14.out.reads b3) rfl (Nat.le_refl _) (by omega)).mono ?_
  rintro e wqQ ⟨rfl, hqQ⟩
  have hsQ := hqQ.symm
  subst hsQ
  clear hqQ
  go_wp2_with fail
  refine (lawSquare (some ⟨BM, 0, none⟩) n n n _ w14 (HM14.out.reads b3) rfl (Nat.le_refl _) (by omega)).mono ?_
  rintro e wqM ⟨rfl, hqM⟩
  have hsM := hqM.symm
  subst hsM
  clear hqM
  -- what the tables tell of one another
  have HPT := Lib.hid (fun i j (hi : i < n) (hj : j < n) => alt_tab HRA.out HRB.out HUS.out hi hj)
  have HQT := Lib.hid (fun i j (hi : i < n) (hj : j < n) => seq_tab HRA.out HRB.out HUS.out hi hj)
  have HMT := Lib.hid (fun i j (hi : i < n) (hj : j < n) => many_tab (vs := vs) HRA.out hi hj)
  have HMO := Lib.hid (fun i j (hi : i < n) (hj : j < n) (h : tableR a vs n i j = true) => many_one HRA.out hi hj h)
  rw [hL20] at HPT
  rw [hL21] at HQT
  rw [hM] at HMT HMO
  obtain ⟨TX, hTX⟩ : ∃ m, tableR a vs n = m := ⟨_, rfl⟩
  obtain ⟨TY, hTY⟩ : ∃ m, tableR b ws n = m := ⟨_, rfl⟩
  obtain ⟨TP, hTP⟩ : ∃ m, tableR L20 us n = m := ⟨_, rfl⟩
  obtain ⟨TQ, hTQ⟩ : ∃ m, tableR L21 us n = m := ⟨_, rfl⟩
  obtain ⟨TM, hTM⟩ : ∃ m, tableR M vs n = m := ⟨_, rfl⟩
  rw [hTX] at HX14 HPT HQT HMT HMO
  rw [hTY] at HY14 HPT HQT
  rw [hTP] at HP14 HPT
  rw [hTQ] at HQ14 HQT
  rw [hTM] at HM14 HMT HMO
  clear hTX hTY hTP hTQ hTM
  go_wp2_with fail
  go_loopw [102] (fun v wx => ∃ i : Nat, v = .int .i64 (i : Nat) ∧ i ≤ n ∧ Below w14.heap.size w14 wx) (fun v _ => n - (intOf v).toNat)
  case atStart => exact ⟨0, rfl, Nat.zero_le _, Below.refl _ _⟩
  case round =>
    obtain ⟨i, rfl, hin, hBo⟩ := hrel
    have HBO := Lib.hid hBo
    clear hBo
    by_cases hlt : i < n
    rotate_left
    · go_wp2_with (go_at_call 8; refine (lawAwake _).mono ?_; rintro e wz ⟨rfl, hbz⟩)
      go_ret
      exact ⟨rfl, (HB14.out.trans (HBO.out.mono HB14.out.size)).trans (hbz.mono (HB14.out.trans (HBO.out.mono HB14.out.size)).size)⟩
    have hii : ((i : Nat) : Int) < ((n : Nat) : Int) := by omega
    go_wp2_with fail
    go_loopw [106] (fun v wx => ∃ j : Nat, v = .int .i64 (j : Nat) ∧ j ≤ n ∧ Below w14.heap.size w14 wx) (fun v _ => n - (intOf v).toNat)
    case atStart => exact ⟨0, rfl, Nat.zero_le _, HBO.out⟩
    case round =>
      obtain ⟨j, rfl, hjn, hBj⟩ := hrel
      have HBJ := Lib.hid hBj
      clear hBj
      by_cases hlt2 : j < n
      rotate_left
      · go_wp2_with fail
        go_roundw
        case rel => exact ⟨i + 1, by simp, by omega, HBJ.out⟩
        case measure => (show n - (i + 1) < n - i; omega)
      have hji : ((j : Nat) : Int) < ((n : Nat) : Int) := by omega
      go_wp2_with fail
      go_loopw [22, 23, 113] (fun vc va vq wx => ∃ q : Nat, vq = .int .i64 (q : Nat) ∧ q ≤ n ∧ vc = .bool ((List.range q).any fun k => TX i k && TY k j) ∧ va = .bool ((((i : Nat) : Int) == ((j : Nat) : Int)) || (List.range q).any fun k => TX i k && TM k j) ∧ Below w14.heap.size w14 wx) (fun _ _ vq _ => n - (intOf vq).toNat)
      case atStart => exact ⟨0, rfl, Nat.zero_le _, rfl, by rw [List.range_zero, List.any_nil, Bool.or_false], HBJ.out⟩
      case round =>
        obtain ⟨q, rfl, hqn, rfl, rfl, hBq⟩ := hrel
        have HBQ := Lib.hid hBq
        clear hBq
        by_cases hlt3 : q < n
        · have hqi : ((q : Nat) : Int) < ((n : Nat) : Int) := by omega
          have oX := (HX14.out.below HBQ.out).outer hlt
          have iX := (HX14.out.below HBQ.out).inner hlt hlt3
          have oY := (HY14.out.below HBQ.out).outer hlt3
          have iY := (HY14.out.below HBQ.out).inner hlt3 hlt2
          have oM := (HM14.out.below HBQ.out).outer hlt3
          have iM := (HM14.out.below HBQ.out).inner hlt3 hlt2
          have HC1 := Lib.hid (any_snoc (fun k => TX i k && TY k j) q)
          have HA1 := Lib.hid (any_snoc (fun k => TX i k && TM k j) q)
          obtain ⟨x, hx⟩ : ∃ x, TX i q = x := ⟨_, rfl⟩
          obtain ⟨y, hy⟩ : ∃ x, TY q j = x := ⟨_, rfl⟩
          obtain ⟨m, hm⟩ : ∃ x, TM q j = x := ⟨_, rfl⟩
          obtain ⟨c0, hc0⟩ : ∃ x, ((List.range q).any fun k => TX i k && TY k j) = x := ⟨_, rfl⟩
          obtain ⟨a1, ha1⟩ : ∃ x, ((List.range q).any fun k => TX i k && TM k j) = x := ⟨_, rfl⟩
          obtain ⟨a2, ha2⟩ : ∃ x, (((i : Nat) : Int) == ((j : Nat) : Int)) = x := ⟨_, rfl⟩
          rw [hx, hy, hc0] at HC1
          rw [hx, hm, ha1] at HA1
          rw [hx] at iX
          rw [hy] at iY
          rw [hm] at iM
          have HA2 := Lib.hid ha2
          clear hx hy hm
          rw [hc0, ha1, ha2]
          obtain ⟨a0, ha0⟩ : ∃ x, (a2 || a1) = x := ⟨_, rfl⟩
          rw [ha0]
          have HA0 := Lib.hid (show (a2 || (a1 || (x && m))) = (a0 || (x && m)) by rw [← ha0, Bool.or_assoc])
          clear hc0 ha1 ha2 ha0
          cases c0 <;> cases x <;> cases a0 <;> as_aux_lemma => (
            go_wp2_with fail
            go_roundw
            case rel => exact ⟨q + 1, by simp, by omega, by rw [HC1.out]; rfl, by rw [HA1.out, HA0.out]; rfl, HBQ.out⟩
            case measure => (show n - (q + 1) < n - q; omega))
        · have e : q = n := by omega
          have hmt : ((((i : Nat) : Int) == ((j : Nat) : Int)) || (List.range n).any fun k => TX i k && TM k j) = TM i j := by
            rw [HMT.out i j hlt hlt2]
            congr 1
            rw [Bool.eq_iff_iff, beq_iff_eq, decide_eq_true_eq]
            omega
          have hnlt : ¬ ((n : Nat) : Int) < ((n : Nat) : Int) := by omega
          rw [e, hmt, ← HQT.out i j hlt hlt2]
          have oX := (HX14.out.below HBQ.out).outer hlt
          have iX := (HX14.out.below HBQ.out).inner hlt hlt2
          have oY := (HY14.out.below HBQ.out).outer hlt
          have iY := (HY14.out.below HBQ.out).inner hlt hlt2
          have oP := (HP14.out.below HBQ.out).outer hlt
          have iP := (HP14.out.below HBQ.out).inner hlt hlt2
          have oQ := (HQ14.out.below HBQ.out).outer hlt
          have iQ := (HQ14.out.below HBQ.out).inner hlt hlt2
          have oM := (HM14.out.below HBQ.out).outer hlt
          have iM := (HM14.out.below HBQ.out).inner hlt hlt2
          rw [HPT.out i j hlt hlt2] at iP
          have hmo := HMO.out i j hlt hlt2
          obtain ⟨x, hx⟩ : ∃ x, TX i j = x := ⟨_, rfl⟩
          obtain ⟨y, hy⟩ : ∃ x, TY i j = x := ⟨_, rfl⟩
          obtain ⟨m, hm⟩ : ∃ x, TM i j = x := ⟨_, rfl⟩
          obtain ⟨qv, hqv⟩ : ∃ x, TQ i j = x := ⟨_, rfl⟩
          rw [hx] at iX iP hmo
          rw [hy] at iY iP
          rw [hm] at iM hmo
          rw [hqv] at iQ
          rw [hm, hqv]
          clear hx hy hm hqv hmt e
          have HBD := Lib.hid (HBQ.out.drew)
          have HO := Lib.hid (And.intro oX (And.intro iX (And.intro oY (And.intro iY (And.intro oP (And.intro iP (And.intro oQ (And.intro iQ (And.intro oM iM)))))))))
          clear oX iX oY iY oP iP oQ iQ oM iM
          go_wp2_with fail
          cases x with
          | true =>
            obtain rfl := hmo rfl
            clear hmo
            rw [Bool.true_or] at HO
            refine wp_region_held_drew (S := fun W => W.cell? ⟨BX, i, none⟩ = some (.slice (some ⟨RX i, 0, none⟩) n n) ∧ W.cell? ⟨RX i, j, none⟩ = some (.bool true) ∧ W.cell? ⟨BY, i, none⟩ = some (.slice (some ⟨RY i, 0, none⟩) n n) ∧ W.cell? ⟨RY i, j, none⟩ = some (.bool y) ∧ W.cell? ⟨BP, i, none⟩ = some (.slice (some ⟨RP i, 0, none⟩) n n) ∧ W.cell? ⟨RP i, j, none⟩ = some (.bool true) ∧ W.cell? ⟨BQ, i, none⟩ = some (.slice (some ⟨RQ i, 0, none⟩) n n) ∧ W.cell? ⟨RQ i, j, none⟩ = some (.bool qv) ∧ W.cell? ⟨BM, i, none⟩ = some (.slice (some ⟨RM i, 0, none⟩) n n) ∧ W.cell? ⟨RM i, j, none⟩ = some (.bool true)) (by kernel_rfl) HO.out (fun hHeld => ?_)
            refine wpAnyH_take (i := 0) (oi := ?tko21) (v := ?tkv21) ?tkh21 (by kernel_rfl) (by kernel_rfl) (by kernel_rfl) ?tkq21 ?tky21 hHeld ?tkr21
            case tkh21 => (simp only [List.getElem?_toArray, List.getElem?_cons_zero]; rfl)
            case tkq21 => exact fun _ _ _ h => h
            case tky21 => exact Or.inl ⟨by rfl, by intro wSw hSw; (try dsimp only at hSw); go_simp; try with_reducible rfl⟩
            try simp only [Act.put, List.setIfInBounds_toArray, List.set_cons_zero, List.set_cons_succ]
            refine wpAnyH_take (i := 1) (oi := ?tko22) (v := ?tkv22) ?tkh22 (by kernel_rfl) (by kernel_rfl) (by kernel_rfl) ?tkq22 ?tky22 hHeld ?tkr22
            case tkh22 => (simp only [List.getElem?_toArray, List.getElem?_cons_succ, List.getElem?_cons_zero]; rfl)
            case tkq22 => exact fun _ _ _ h => h
            case tky22 => exact Or.inl ⟨by rfl, by intro wSw hSw; (try dsimp only at hSw); go_simp; try with_reducible rfl⟩
            try simp only [Act.put, List.setIfInBounds_toArray, List.set_cons_zero, List.set_cons_succ]
            refine wpAnyH_take (i := 2) (oi := ?tko23) (v := ?tkv23) ?tkh23 (by kernel_rfl) (by kernel_rfl) (by kernel_rfl) ?tkq23 ?tky23 hHeld ?tkr23
            case tkh23 => (simp only [List.getElem?_toArray, List.getElem?_cons_succ, List.getElem?_cons_zero]; rfl)
            case tkq23 => exact fun _ _ _ h => h
            case tky23 => exact Or.inl ⟨by rfl, by intro wSw hSw; (try dsimp only at hSw); go_simp; try with_reducible rfl⟩
            try simp only [Act.put, List.setIfInBounds_toArray, List.set_cons_zero, List.set_cons_succ]
            refine wpAnyH_take (i := 3) (oi := ?tko24) (v := ?tkv24) ?tkh24 (by kernel_rfl) (by kernel_rfl) (by kernel_rfl) ?tkq24 ?tky24 hHeld ?tkr24
            case tkh24 => (simp only [List.getElem?_toArray, List.getElem?_cons_succ, List.getElem?_cons_zero]; rfl)
            case tkq24 => exact fun _ _ _ h => h
            case tky24 => exact Or.inl ⟨by rfl, by intro wSw hSw; (try dsimp only at hSw); go_simp; try with_reducible rfl⟩
            try simp only [Act.put, List.setIfInBounds_toArray, List.set_cons_zero, List.set_cons_succ]
            refine wpAnyH_take (i := 4) (oi := ?tko25) (v := ?tkv25) ?tkh25 (by kernel_rfl) (by kernel_rfl) (by kernel_rfl) ?tkq25 ?tky25 hHeld ?tkr25
            case tkh25 => (simp only [List.getElem?_toArray, List.getElem?_cons_succ, List.getElem?_cons_zero]; rfl)
            case tkq25 => exact fun _ _ _ h => h
            case tky25 => exact Or.inl ⟨by rfl, by intro wSw hSw; (try dsimp only at hSw); go_simp; try with_reducible rfl⟩
            try simp only [Act.put, List.setIfInBounds_toArray, List.set_cons_zero, List.set_cons_succ]
            refine wpAnyH_take (i := 5) (oi := ?tko26) (v := ?tkv26) ?tkh26 (by kernel_rfl) (by kernel_rfl) (by kernel_rfl) ?tkq26 ?tky26 hHeld ?tkr26
            case tkh26 => (simp only [List.getElem?_toArray, List.getElem?_cons_succ, List.getElem?_cons_zero]; rfl)
            case tkq26 => exact fun _ _ _ h => h
            case tky26 => exact Or.inl ⟨by rfl, by intro wSw hSw; (try dsimp only at hSw); go_simp; try with_reducible rfl⟩
            try simp only [Act.put, List.setIfInBounds_toArray, List.set_cons_zero, List.set_cons_succ]
            refine wpAnyH_take (i := 6) (oi := ?tko27) (v := ?tkv27) ?tkh27 (by kernel_rfl) (by kernel_rfl) (by kernel_rfl) ?tkq27 ?tky27 hHeld ?tkr27
            case tkh27 => (simp only [List.getElem?_toArray, List.getElem?_cons_succ, List.getElem?_cons_zero]; rfl)
            case tkq27 => exact fun _ _ _ h => h
            case tky27 => exact Or.inl ⟨by rfl, by intro wSw hSw; (try dsimp only at hSw); go_simp; try with_reducible rfl⟩
            try simp only [Act.put, List.setIfInBounds_toArray, List.set_cons_zero, List.set_cons_succ]
            refine wpAnyH_take (i := 7) (oi := ?tko28) (v := ?tkv28) ?tkh28 (by kernel_rfl) (by kernel_rfl) (by kernel_rfl) ?tkq28 ?tky28 hHeld ?tkr28
            case tkh28 => (simp only [List.getElem?_toArray, List.getElem?_cons_succ, List.getElem?_cons_zero]; rfl)
            case tkq28 => exact fun _ _ _ h => h
            case tky28 => exact Or.inl ⟨by rfl, by intro wSw hSw; (try dsimp only at hSw); go_simp; try with_reducible rfl⟩
            try simp only [Act.put, List.setIfInBounds_toArray, List.set_cons_zero, List.set_cons_succ]
            refine wpAnyH_take (i := 8) (oi := ?tko29) (v := ?tkv29) ?tkh29 (by kernel_rfl) (by kernel_rfl) (by kernel_rfl) ?tkq29 ?tky29 hHeld ?tkr29
            case tkh29 => (simp only [List.getElem?_toArray, List.getElem?_cons_succ, List.getElem?_cons_zero]; rfl)
            case tkq29 => exact fun _ _ _ h => h
            case tky29 => exact Or.inl ⟨by rfl, by intro wSw hSw; (try dsimp only at hSw); go_simp; try with_reducible rfl⟩
            try simp only [Act.put, List.setIfInBounds_toArray, List.set_cons_zero, List.set_cons_succ]
            refine wpAnyH_take (i := 9) (oi := ?tko30) (v := ?tkv30) ?tkh30 (by kernel_rfl) (by kernel_rfl) (by kernel_rfl) ?tkq30 ?tky30 hHeld ?tkr30
            case tkh30 => (simp only [List.getElem?_toArray, List.getElem?_cons_succ, List.getElem?_cons_zero]; rfl)
            case tkq30 => exact fun _ _ _ h => h
            case tky30 => exact Or.inl ⟨by rfl, by intro wSw hSw; (try dsimp only at hSw); go_simp; try with_reducible rfl⟩
            try simp only [Act.put, List.setIfInBounds_toArray, List.set_cons_zero, List.set_cons_succ]
            refine wpAnyH_take (i := 10) (oi := ?tko31) (v := ?tkv31) ?tkh31 (by kernel_rfl) (by kernel_rfl) (by kernel_rfl) ?tkq31 ?tky31 hHeld ?tkr31
            case tkh31 => (simp only [List.getElem?_toArray, List.getElem?_cons_succ, List.getElem?_cons_zero]; rfl)
            case tkq31 => exact fun _ _ _ h => h
            case tky31 => exact Or.inl ⟨by rfl, by intro wSw hSw; (try dsimp only at hSw); go_simp; try with_reducible rfl⟩
            try simp only [Act.put, List.setIfInBounds_toArray, List.set_cons_zero, List.set_cons_succ]
            refine wpAnyH_take (i := 11) (oi := ?tko32) (v := ?tkv32) ?tkh32 (by kernel_rfl) (by kernel_rfl) (by kernel_rfl) ?tkq32 ?tky32 hHeld ?tkr32
            case tkh32 => (simp only [List.getElem?_toArray, List.getElem?_cons_succ, List.getElem?_cons_zero]; rfl)
            case tkq32 => exact fun _ _ _ h => h
            case tky32 => exact Or.inl ⟨by rfl, by intro wSw hSw; (try dsimp only at hSw); go_simp; try with_reducible rfl⟩
            try simp only [Act.put, List.setIfInBounds_toArray, List.set_cons_zero, List.set_cons_succ]
            refine wpAnyH_take (i := 12) (oi := ?tko33) (v := ?tkv33) ?tkh33 (by kernel_rfl) (by kernel_rfl) (by kernel_rfl) ?tkq33 ?tky33 hHeld ?tkr33
            case tkh33 => (simp only [List.getElem?_toArray, List.getElem?_cons_succ, List.getElem?_cons_zero]; rfl)
            case tkq33 => exact fun _ _ _ h => h
            case tky33 => exact Or.inl ⟨by rfl, by intro wSw hSw; (try dsimp only at hSw); go_simp; try with_reducible rfl⟩
            try simp only [Act.put, List.setIfInBounds_toArray, List.set_cons_zero, List.set_cons_succ]
            refine wpAnyH_take (i := 13) (oi := ?tko34) (v := ?tkv34) ?tkh34 (by kernel_rfl) (by kernel_rfl) (by kernel_rfl) ?tkq34 ?tky34 hHeld ?tkr34
            case tkh34 => (simp only [List.getElem?_toArray, List.getElem?_cons_succ, List.getElem?_cons_zero]; rfl)
            case tkq34 => exact fun _ _ _ h => h
            case tky34 => exact Or.inl ⟨by rfl, by intro wSw hSw; (try dsimp only at hSw); go_simp; try with_reducible rfl⟩
            try simp only [Act.put, List.setIfInBounds_toArray, List.set_cons_zero, List.set_cons_succ]
            refine wpAnyH_take (i := 14) (oi := ?tko35) (v := ?tkv35) ?tkh35 (by kernel_rfl) (by kernel_rfl) (by kernel_rfl) ?tkq35 ?tky35 hHeld ?tkr35
            case tkh35 => (simp only [List.getElem?_toArray, List.getElem?_cons_succ, List.getElem?_cons_zero]; rfl)
            case tkq35 => exact fun _ _ _ h => h
            case tky35 => exact Or.inl ⟨by rfl, by intro wSw hSw; (try dsimp only at hSw); go_simp; try with_reducible rfl⟩
            try simp only [Act.put, List.setIfInBounds_toArray, List.set_cons_zero, List.set_cons_succ]
            refine Skips.skips (by kernel_rfl) (fun _ _ _ _ _ h => h) hHeld [15, 16, 17, 18, 19, 20, 21] _ 43 _ _ (by kernel_rfl) ?tkk36 ?tkr36
            case tkk36 => kernel_rfl
            simp only [Skips.skipAct, Skips.skipListed, List.getElem?_toArray, List.getElem?_cons_succ, List.getElem?_cons_zero, Act.put, List.setIfInBounds_toArray, List.set_cons_zero, List.set_cons_succ]
            refine wpAnyH_take (i := 22) (oi := ?tko37) (v := ?tkv37) ?tkh37 (by kernel_rfl) (by kernel_rfl) (by kernel_rfl) ?tkq37 ?tky37 hHeld ?tkr37
            case tkh37 => (simp only [List.getElem?_toArray, List.getElem?_cons_succ, List.getElem?_cons_zero]; rfl)
            case tkq37 => exact fun _ _ _ h => h
            case tky37 => exact Or.inl ⟨by rfl, by intro wSw hSw; (try dsimp only at hSw); go_simp; try with_reducible rfl⟩
            try simp only [Act.put, List.setIfInBounds_toArray, List.set_cons_zero, List.set_cons_succ]
            refine wpAnyH_take (i := 23) (oi := ?tko38) (v := ?tkv38) ?tkh38 (by kernel_rfl) (by kernel_rfl) (by kernel_rfl) ?tkq38 ?tky38 hHeld ?tkr38
            case tkh38 => (simp only [List.getElem?_toArray, List.getElem?_cons_succ, List.getElem?_cons_zero]; rfl)
            case tkq38 => exact fun _ _ _ h => h
            case tky38 => exact Or.inl ⟨by rfl, by intro wSw hSw; (try dsimp only at hSw); go_simp; try with_reducible rfl⟩
            try simp only [Act.put, List.setIfInBounds_toArray, List.set_cons_zero, List.set_cons_succ]
            refine wpAnyH_take (i := 24) (oi := ?tko39) (v := ?tkv39) ?tkh39 (by kernel_rfl) (by kernel_rfl) (by kernel_rfl) ?tkq39 ?tky39 hHeld ?tkr39
            case tkh39 => (simp only [List.getElem?_toArray, List.getElem?_cons_succ, List.getElem?_cons_zero]; rfl)
            case tkq39 => exact fun _ _ _ h => h
            case tky39 => exact Or.inl ⟨by rfl, by intro wSw hSw; (try dsimp only at hSw); go_simp; try with_reducible rfl⟩
            try simp only [Act.put, List.setIfInBounds_toArray, List.set_cons_zero, List.set_cons_succ]
            refine wpAnyH_take (i := 25) (oi := ?tko40) (v := ?tkv40) ?tkh40 (by kernel_rfl) (by kernel_rfl) (by kernel_rfl) ?tkq40 ?tky40 hHeld ?tkr40
            case tkh40 => (simp only [List.getElem?_toArray, List.getElem?_cons_succ, List.getElem?_cons_zero]; rfl)
            case tkq40 => exact fun _ _ _ h => h
            case tky40 => exact Or.inl ⟨by rfl, by intro wSw hSw; (try dsimp only at hSw); go_simp; try with_reducible rfl⟩
            try simp only [Act.put, List.setIfInBounds_toArray, List.set_cons_zero, List.set_cons_succ]
            refine wpAnyH_take (i := 26) (oi := ?tko41) (v := ?tkv41) ?tkh41 (by kernel_rfl) (by kernel_rfl) (by kernel_rfl) ?tkq41 ?tky41 hHeld ?tkr41
            case tkh41 => (simp only [List.getElem?_toArray, List.getElem?_cons_succ, List.getElem?_cons_zero]; rfl)
            case tkq41 => exact fun _ _ _ h => h
            case tky41 => exact Or.inl ⟨by rfl, by intro wSw hSw; (try dsimp only at hSw); go_simp; try with_reducible rfl⟩
            try simp only [Act.put, List.setIfInBounds_toArray, List.set_cons_zero, List.set_cons_succ]
            refine wpAnyH_take (i := 27) (oi := ?tko42) (v := ?tkv42) ?tkh42 (by kernel_rfl) (by kernel_rfl) (by kernel_rfl) ?tkq42 ?tky42 hHeld ?tkr42
            case tkh42 => (simp only [List.getElem?_toArray, List.getElem?_cons_succ, List.getElem?_cons_zero]; rfl)
            case tkq42 => exact fun _ _ _ h => h
            case tky42 => exact Or.inl ⟨by rfl, by intro wSw hSw; (try dsimp only at hSw); go_simp; try with_reducible rfl⟩
            try simp only [Act.put, List.setIfInBounds_toArray, List.set_cons_zero, List.set_cons_succ]
            refine wpAnyH_take (i := 28) (oi := ?tko43) (v := ?tkv43) ?tkh43 (by kernel_rfl) (by kernel_rfl) (by kernel_rfl) ?tkq43 ?tky43 hHeld ?tkr43
            case tkh43 => (simp only [List.getElem?_toArray, List.getElem?_cons_succ, List.getElem?_cons_zero]; rfl)
            case tkq43 => exact fun _ _ _ h => h
            case tky43 => exact Or.inl ⟨by rfl, by intro wSw hSw; (try dsimp only at hSw); go_simp; try with_reducible rfl⟩
            try simp only [Act.put, List.setIfInBounds_toArray, List.set_cons_zero, List.set_cons_succ]
            refine wpAnyH_take (i := 29) (oi := ?tko44) (v := ?tkv44) ?tkh44 (by kernel_rfl) (by kernel_rfl) (by kernel_rfl) ?tkq44 ?tky44 hHeld ?tkr44
            case tkh44 => (simp only [List.getElem?_toArray, List.getElem?_cons_succ, List.getElem?_cons_zero]; rfl)
            case tkq44 => exact fun _ _ _ h => h
            case tky44 => exact Or.inl ⟨by rfl, by intro wSw hSw; (try dsimp only at hSw); go_simp; try with_reducible rfl⟩
            try simp only [Act.put, List.setIfInBounds_toArray, List.set_cons_zero, List.set_cons_succ]
            refine wpAnyH_take (i := 30) (oi := ?tko45) (v := ?tkv45) ?tkh45 (by kernel_rfl) (by kernel_rfl) (by kernel_rfl) ?tkq45 ?tky45 hHeld ?tkr45
            case tkh45 => (simp only [List.getElem?_toArray, List.getElem?_cons_succ, List.getElem?_cons_zero]; rfl)
            case tkq45 => exact fun _ _ _ h => h
            case tky45 => exact Or.inl ⟨by rfl, by intro wSw hSw; (try dsimp only at hSw); go_simp; try with_reducible rfl⟩
            try simp only [Act.put, List.setIfInBounds_toArray, List.set_cons_zero, List.set_cons_succ]
            refine wpAnyH_take (i := 31) (oi := ?tko46) (v := ?tkv46) ?tkh46 (by kernel_rfl) (by kernel_rfl) (by kernel_rfl) ?tkq46 ?tky46 hHeld ?tkr46
            case tkh46 => (simp only [List.getElem?_toArray, List.getElem?_cons_succ, List.getElem?_cons_zero]; rfl)
            case tkq46 => exact fun _ _ _ h => h
            case tky46 => exact Or.inl ⟨by rfl, by intro wSw hSw; (try dsimp only at hSw); go_simp; try with_reducible rfl⟩
            try simp only [Act.put, List.setIfInBounds_toArray, List.set_cons_zero, List.set_cons_succ]
            refine wpAnyH_take (i := 32) (oi := ?tko47) (v := ?tkv47) ?tkh47 (by kernel_rfl) (by kernel_rfl) (by kernel_rfl) ?tkq47 ?tky47 hHeld ?tkr47
            case tkh47 => (simp only [List.getElem?_toArray, List.getElem?_cons_succ, List.getElem?_cons_zero]; rfl)
            case tkq47 => exact fun _ _ _ h => h
            case tky47 => exact Or.inl ⟨by rfl, by intro wSw hSw; (try dsimp only at hSw); go_simp; try with_reducible rfl⟩
            try simp only [Act.put, List.setIfInBounds_toArray, List.set_cons_zero, List.set_cons_succ]
            refine wpAnyH_take (i := 33) (oi := ?tko48) (v := ?tkv48) ?tkh48 (by kernel_rfl) (by kernel_rfl) (by kernel_rfl) ?tkq48 ?tky48 hHeld ?tkr48
            case tkh48 => (simp only [List.getElem?_toArray, List.getElem?_cons_succ, List.getElem?_cons_zero]; rfl)
            case tkq48 => exact fun _ _ _ h => h
            case tky48 => exact Or.inl ⟨by rfl, by intro wSw hSw; (try dsimp only at hSw); go_simp; try with_reducible rfl⟩
            try simp only [Act.put, List.setIfInBounds_toArray, List.set_cons_zero, List.set_cons_succ]
            refine wpAnyH_take (i := 34) (oi := ?tko49) (v := ?tkv49) ?tkh49 (by kernel_rfl) (by kernel_rfl) (by kernel_rfl) ?tkq49 ?tky49 hHeld ?tkr49
            case tkh49 => (simp only [List.getElem?_toArray, List.getElem?_cons_succ, List.getElem?_cons_zero]; rfl)
            case tkq49 => exact fun _ _ _ h => h
            case tky49 => exact Or.inl ⟨by rfl, by intro wSw hSw; (try dsimp only at hSw); go_simp; try with_reducible rfl⟩
            try simp only [Act.put, List.setIfInBounds_toArray, List.set_cons_zero, List.set_cons_succ]
            refine wpAnyH_take (i := 35) (oi := ?tko50) (v := ?tkv50) ?tkh50 (by kernel_rfl) (by kernel_rfl) (by kernel_rfl) ?tkq50 ?tky50 hHeld ?tkr50
            case tkh50 => (simp only [List.getElem?_toArray, List.getElem?_cons_succ, List.getElem?_cons_zero]; rfl)
            case tkq50 => exact fun _ _ _ h => h
            case tky50 => exact Or.inl ⟨by rfl, by intro wSw hSw; (try dsimp only at hSw); go_simp; try with_reducible rfl⟩
            try simp only [Act.put, List.setIfInBounds_toArray, List.set_cons_zero, List.set_cons_succ]
            refine wpAnyH_take (i := 36) (oi := ?tko51) (v := ?tkv51) ?tkh51 (by kernel_rfl) (by kernel_rfl) (by kernel_rfl) ?tkq51 ?tky51 hHeld ?tkr51
            case tkh51 => (simp only [List.getElem?_toArray, List.getElem?_cons_succ, List.getElem?_cons_zero]; rfl)
            case tkq51 => exact fun _ _ _ h => h
            case tky51 => exact Or.inl ⟨by rfl, by intro wSw hSw; (try dsimp only at hSw); go_simp; try with_reducible rfl⟩
            try simp only [Act.put, List.setIfInBounds_toArray, List.set_cons_zero, List.set_cons_succ]
            refine wpAnyH_take (i := 37) (oi := ?tko52) (v := ?tkv52) ?tkh52 (by kernel_rfl) (by kernel_rfl) (by kernel_rfl) ?tkq52 ?tky52 hHeld ?tkr52
            case tkh52 => (simp only [List.getElem?_toArray, List.getElem?_cons_succ, List.getElem?_cons_zero]; rfl)
            case tkq52 => exact fun _ _ _ h => h
            case tky52 => exact Or.inl ⟨by rfl, by intro wSw hSw; (try dsimp only at hSw); go_simp; try with_reducible rfl⟩
            try simp only [Act.put, List.setIfInBounds_toArray, List.set_cons_zero, List.set_cons_succ]
            refine wpAnyH_take (i := 38) (oi := ?tko53) (v := ?tkv53) ?tkh53 (by kernel_rfl) (by kernel_rfl) (by kernel_rfl) ?tkq53 ?tky53 hHeld ?tkr53
            case tkh53 => (simp only [List.getElem?_toArray, List.getElem?_cons_succ, List.getElem?_cons_zero]; rfl)
            case tkq53 => exact fun _ _ _ h => h
            case tky53 => exact Or.inl ⟨by rfl, by intro wSw hSw; (try dsimp only at hSw); go_simp; try with_reducible rfl⟩
            try simp only [Act.put, List.setIfInBounds_toArray, List.set_cons_zero, List.set_cons_succ]
            refine wpAnyH_take (i := 39) (oi := ?tko54) (v := ?tkv54) ?tkh54 (by kernel_rfl) (by kernel_rfl) (by kernel_rfl) ?tkq54 ?tky54 hHeld ?tkr54
            case tkh54 => (simp only [List.getElem?_toArray, List.getElem?_cons_succ, List.getElem?_cons_zero]; rfl)
            case tkq54 => exact fun _ _ _ h => h
            case tky54 => exact Or.inl ⟨by rfl, by intro wSw hSw; (try dsimp only at hSw); go_simp; try with_reducible rfl⟩
            try simp only [Act.put, List.setIfInBounds_toArray, List.set_cons_zero, List.set_cons_succ]
            refine wpAnyH_take (i := 40) (oi := ?tko55) (v := ?tkv55) ?tkh55 (by kernel_rfl) (by kernel_rfl) (by kernel_rfl) ?tkq55 ?tky55 hHeld ?tkr55
            case tkh55 => (simp only [List.getElem?_toArray, List.getElem?_cons_succ, List.getElem?_cons_zero]; rfl)
            case tkq55 => exact fun _ _ _ h => h
            case tky55 => exact Or.inl ⟨by rfl, by intro wSw hSw; (try dsimp only at hSw); go_simp; try with_reducible rfl⟩
            try simp only [Act.put, List.setIfInBounds_toArray, List.set_cons_zero, List.set_cons_succ]
            refine wpAnyH_take (i := 41) (oi := ?tko56) (v := ?tkv56) ?tkh56 (by kernel_rfl) (by kernel_rfl) (by kernel_rfl) ?tkq56 ?tky56 hHeld ?tkr56
            case tkh56 => (simp only [List.getElem?_toArray, List.getElem?_cons_succ, List.getElem?_cons_zero]; rfl)
            case tkq56 => exact fun _ _ _ h => h
            case tky56 => exact Or.inl ⟨by rfl, by intro wSw hSw; (try dsimp only at hSw); go_simp; try with_reducible rfl⟩
            try simp only [Act.put, List.setIfInBounds_toArray, List.set_cons_zero, List.set_cons_succ]
            refine wpAnyH_take (i := 42) (oi := ?tko57) (v := ?tkv57) ?tkh57 (by kernel_rfl) (by kernel_rfl) (by kernel_rfl) ?tkq57 ?tky57 hHeld ?tkr57
            case tkh57 => (simp only [List.getElem?_toArray, List.getElem?_cons_succ, List.getElem?_cons_zero]; rfl)
            case tkq57 => exact fun _ _ _ h => h
            case tky57 => exact Or.inl ⟨by rfl, by intro wSw hSw; (try dsimp only at hSw); go_simp; try with_reducible rfl⟩
            try simp only [Act.put, List.setIfInBounds_toArray, List.set_cons_zero, List.set_cons_succ]
            refine wpAnyH_take (i := 43) (oi := ?tko58) (v := ?tkv58) ?tkh58 (by kernel_rfl) (by kernel_rfl) (by kernel_rfl) ?tkq58 ?tky58 hHeld ?tkr58
            case tkh58 => (simp only [List.getElem?_toArray, List.getElem?_cons_succ, List.getElem?_cons_zero]; rfl)
            case tkq58 => exact fun _ _ _ h => h
            case tky58 => exact Or.inl ⟨by rfl, by intro wSw hSw; (try dsimp only at hSw); go_simp; try with_reducible rfl⟩
            try simp only [Act.put, List.setIfInBounds_toArray, List.set_cons_zero, List.set_cons_succ]
            refine wpAnyH_take (i := 44) (oi := ?tko59) (v := ?tkv59) ?tkh59 (by kernel_rfl) (by kernel_rfl) (by kernel_rfl) ?tkq59 ?tky59 hHeld ?tkr59
            case tkh59 => (simp only [List.getElem?_toArray, List.getElem?_cons_succ, List.getElem?_cons_zero]; rfl)
            case tkq59 => exact fun _ _ _ h => h
            case tky59 => exact Or.inl ⟨by rfl, by intro wSw hSw; (try dsimp only at hSw); go_simp; try with_reducible rfl⟩
            try simp only [Act.put, List.setIfInBounds_toArray, List.set_cons_zero, List.set_cons_succ]
            refine wpAnyH_take (i := 45) (oi := ?tko60) (v := ?tkv60) ?tkh60 (by kernel_rfl) (by kernel_rfl) (by kernel_rfl) ?tkq60 ?tky60 hHeld ?tkr60
            case tkh60 => (simp only [List.getElem?_toArray, List.getElem?_cons_succ, List.getElem?_cons_zero]; rfl)
            case tkq60 => exact fun _ _ _ h => h
            case tky60 => exact Or.inl ⟨by rfl, by intro wSw hSw; (try dsimp only at hSw); go_simp; try with_reducible rfl⟩
            try simp only [Act.put, List.setIfInBounds_toArray, List.set_cons_zero, List.set_cons_succ]
            refine wpAnyH_take (i := 46) (oi := ?tko61) (v := ?tkv61) ?tkh61 (by kernel_rfl) (by kernel_rfl) (by kernel_rfl) ?tkq61 ?tky61 hHeld ?tkr61
            case tkh61 => (simp only [List.getElem?_toArray, List.getElem?_cons_succ, List.getElem?_cons_zero]; rfl)
            case tkq61 => exact fun _ _ _ h => h
            case tky61 => exact Or.inl ⟨by rfl, by intro wSw hSw; (try dsimp only at hSw); go_simp; try with_reducible rfl⟩
            try simp only [Act.put, List.setIfInBounds_toArray, List.set_cons_zero, List.set_cons_succ]
            refine wpAnyH_take (i := 47) (oi := ?tko62) (v := ?tkv62) ?tkh62 (by kernel_rfl) (by kernel_rfl) (by kernel_rfl) ?tkq62 ?tky62 hHeld ?tkr62
            case tkh62 => (simp only [List.getElem?_toArray, List.getElem?_cons_succ, List.getElem?_cons_zero]; rfl)
            case tkq62 => exact fun _ _ _ h => h
            case tky62 => exact Or.inl ⟨by rfl, by intro wSw hSw; (try dsimp only at hSw); go_simp; try with_reducible rfl⟩
            try simp only [Act.put, List.setIfInBounds_toArray, List.set_cons_zero, List.set_cons_succ]
            refine wpAnyH_take (i := 48) (oi := ?tko63) (v := ?tkv63) ?tkh63 (by kernel_rfl) (by kernel_rfl) (by kernel_rfl) ?tkq63 ?tky63 hHeld ?tkr63
            case tkh63 => (simp only [List.getElem?_toArray, List.getElem?_cons_succ, List.getElem?_cons_zero]; rfl)
            case tkq63 => exact fun _ _ _ h => h
            case tky63 => exact Or.inl ⟨by rfl, by intro wSw hSw; (try dsimp only at hSw); go_simp; try with_reducible rfl⟩
            try simp only [Act.put, List.setIfInBounds_toArray, List.set_cons_zero, List.set_cons_succ]
            refine wpAnyH_take (i := 49) (oi := ?tko64) (v := ?tkv64) ?tkh64 (by kernel_rfl) (by kernel_rfl) (by kernel_rfl) ?tkq64 ?tky64 hHeld ?tkr64
            case tkh64 => (simp only [List.getElem?_toArray, List.getElem?_cons_succ, List.getElem?_cons_zero]; rfl)
            case tkq64 => exact fun _ _ _ h => h
            case tky64 => exact Or.inl ⟨by rfl, by intro wSw hSw; (try dsimp only at hSw); go_simp; try with_reducible rfl⟩
            try simp only [Act.put, List.setIfInBounds_toArray, List.set_cons_zero, List.set_cons_succ]
            refine wpAnyH_take (i := 50) (oi := ?tko65) (v := ?tkv65) ?tkh65 (by kernel_rfl) (by kernel_rfl) (by kernel_rfl) ?tkq65 ?tky65 hHeld ?tkr65
            case tkh65 => (simp only [List.getElem?_toArray, List.getElem?_cons_succ, List.getElem?_cons_zero]; rfl)
            case tkq65 => exact fun _ _ _ h => h
            case tky65 => exact Or.inl ⟨by rfl, by intro wSw hSw; (try dsimp only at hSw); go_simp; try with_reducible rfl⟩
            try simp only [Act.put, List.setIfInBounds_toArray, List.set_cons_zero, List.set_cons_succ]
            refine wpAnyH_take (i := 51) (oi := ?tko66) (v := ?tkv66) ?tkh66 (by kernel_rfl) (by kernel_rfl) (by kernel_rfl) ?tkq66 ?tky66 hHeld ?tkr66
            case tkh66 => (simp only [List.getElem?_toArray, List.getElem?_cons_succ, List.getElem?_cons_zero]; rfl)
            case tkq66 => exact fun _ _ _ h => h
            case tky66 => exact Or.inl ⟨by rfl, by intro wSw hSw; (try dsimp only at hSw); go_simp; try with_reducible rfl⟩
            try simp only [Act.put, List.setIfInBounds_toArray, List.set_cons_zero, List.set_cons_succ]
            refine wpAnyH_take (i := 52) (oi := ?tko67) (v := ?tkv67) ?tkh67 (by kernel_rfl) (by kernel_rfl) (by kernel_rfl) ?tkq67 ?tky67 hHeld ?tkr67
            case tkh67 => (simp only [List.getElem?_toArray, List.getElem?_cons_succ, List.getElem?_cons_zero]; rfl)
            case tkq67 => exact fun _ _ _ h => h
            case tky67 => exact Or.inl ⟨by rfl, by intro wSw hSw; (try dsimp only at hSw); go_simp; try with_reducible rfl⟩
            try simp only [Act.put, List.setIfInBounds_toArray, List.set_cons_zero, List.set_cons_succ]
            refine wpAnyH_take (i := 53) (oi := ?tko68) (v := ?tkv68) ?tkh68 (by kernel_rfl) (by kernel_rfl) (by kernel_rfl) ?tkq68 ?tky68 hHeld ?tkr68
            case tkh68 => (simp only [List.getElem?_toArray, List.getElem?_cons_succ, List.getElem?_cons_zero]; rfl)
            case tkq68 => exact fun _ _ _ h => h
            case tky68 => exact Or.inl ⟨by rfl, by intro wSw hSw; (try dsimp only at hSw); go_simp; try with_reducible rfl⟩
            try simp only [Act.put, List.setIfInBounds_toArray, List.set_cons_zero, List.set_cons_succ]
            refine wpAnyH_take (i := 54) (oi := ?tko69) (v := ?tkv69) ?tkh69 (by kernel_rfl) (by kernel_rfl) (by kernel_rfl) ?tkq69 ?tky69 hHeld ?tkr69
            case tkh69 => (simp only [List.getElem?_toArray, List.getElem?_cons_succ, List.getElem?_cons_zero]; rfl)
            case tkq69 => exact fun _ _ _ h => h
            case tky69 => exact Or.inl ⟨by rfl, by intro wSw hSw; (try dsimp only at hSw); go_simp; try with_reducible rfl⟩
            try simp only [Act.put, List.setIfInBounds_toArray, List.set_cons_zero, List.set_cons_succ]
            refine wpAnyH_take (i := 55) (oi := ?tko70) (v := ?tkv70) ?tkh70 (by kernel_rfl) (by kernel_rfl) (by kernel_rfl) ?tkq70 ?tky70 hHeld ?tkr70
            case tkh70 => (simp only [List.getElem?_toArray, List.getElem?_cons_succ, List.getElem?_cons_zero]; rfl)
            case tkq70 => exact fun _ _ _ h => h
            case tky70 => exact Or.inl ⟨by rfl, by intro wSw hSw; (try dsimp only at hSw); go_simp; try with_reducible rfl⟩
            try simp only [Act.put, List.setIfInBounds_toArray, List.set_cons_zero, List.set_cons_succ]
            refine wpAnyH_take (i := 56) (oi := ?tko71) (v := ?tkv71) ?tkh71 (by kernel_rfl) (by kernel_rfl) (by kernel_rfl) ?tkq71 ?tky71 hHeld ?tkr71
            case tkh71 => (simp only [List.getElem?_toArray, List.getElem?_cons_succ, List.getElem?_cons_zero]; rfl)
            case tkq71 => exact fun _ _ _ h => h
            case tky71 => exact Or.inl ⟨by rfl, by intro wSw hSw; (try dsimp only at hSw); go_simp; try with_reducible rfl⟩
            try simp only [Act.put, List.setIfInBounds_toArray, List.set_cons_zero, List.set_cons_succ]
            refine wpAnyH_take (i := 57) (oi := ?tko72) (v := ?tkv72) ?tkh72 (by kernel_rfl) (by kernel_rfl) (by kernel_rfl) ?tkq72 ?tky72 hHeld ?tkr72
            case tkh72 => (simp only [List.getElem?_toArray, List.getElem?_cons_succ, List.getElem?_cons_zero]; rfl)
            case tkq72 => exact fun _ _ _ h => h
            case tky72 => exact Or.inl ⟨by rfl, by intro wSw hSw; (try dsimp only at hSw); go_simp; try with_reducible rfl⟩
            try simp only [Act.put, List.setIfInBounds_toArray, List.set_cons_zero, List.set_cons_succ]
            refine wpAnyH_take (i := 58) (oi := ?tko73) (v := ?tkv73) ?tkh73 (by kernel_rfl) (by kernel_rfl) (by kernel_rfl) ?tkq73 ?tky73 hHeld ?tkr73
            case tkh73 => (simp only [List.getElem?_toArray, List.getElem?_cons_succ, List.getElem?_cons_zero]; rfl)
            case tkq73 => exact fun _ _ _ h => h
            case tky73 => exact Or.inl ⟨by rfl, by intro wSw hSw; (try dsimp only at hSw); go_simp; try with_reducible rfl⟩
            try simp only [Act.put, List.setIfInBounds_toArray, List.set_cons_zero, List.set_cons_succ]
            refine wpAnyH_take (i := 59) (oi := ?tko74) (v := ?tkv74) ?tkh74 (by kernel_rfl) (by kernel_rfl) (by kernel_rfl) ?tkq74 ?tky74 hHeld ?tkr74
            case tkh74 => (simp only [List.getElem?_toArray, List.getElem?_cons_succ, List.getElem?_cons_zero]; rfl)
            case tkq74 => exact fun _ _ _ h => h
            case tky74 => exact Or.inl ⟨by rfl, by intro wSw hSw; (try dsimp only at hSw); go_simp; try with_reducible rfl⟩
            try simp only [Act.put, List.setIfInBounds_toArray, List.set_cons_zero, List.set_cons_succ]
            refine wpAnyH_take (i := 60) (oi := ?tko75) (v := ?tkv75) ?tkh75 (by kernel_rfl) (by kernel_rfl) (by kernel_rfl) ?tkq75 ?tky75 hHeld ?tkr75
            case tkh75 => (simp only [List.getElem?_toArray, List.getElem?_cons_succ, List.getElem?_cons_zero]; rfl)
            case tkq75 => exact fun _ _ _ h => h
            case tky75 => exact Or.inl ⟨by rfl, by intro wSw hSw; (try dsimp only at hSw); go_simp; try with_reducible rfl⟩
            try simp only [Act.put, List.setIfInBounds_toArray, List.set_cons_zero, List.set_cons_succ]
            refine wpAnyH_take (i := 61) (oi := ?tko76) (v := ?tkv76) ?tkh76 (by kernel_rfl) (by kernel_rfl) (by kernel_rfl) ?tkq76 ?tky76 hHeld ?tkr76
            case tkh76 => (simp only [List.getElem?_toArray, List.getElem?_cons_succ, List.getElem?_cons_zero]; rfl)
            case tkq76 => exact fun _ _ _ h => h
            case tky76 => exact Or.inl ⟨by rfl, by intro wSw hSw; (try dsimp only at hSw); go_simp; try with_reducible rfl⟩
            try simp only [Act.put, List.setIfInBounds_toArray, List.set_cons_zero, List.set_cons_succ]
            refine wpAnyH_take (i := 62) (oi := ?tko77) (v := ?tkv77) ?tkh77 (by kernel_rfl) (by kernel_rfl) (by kernel_rfl) ?tkq77 ?tky77 hHeld ?tkr77
            case tkh77 => (simp only [List.getElem?_toArray, List.getElem?_cons_succ, List.getElem?_cons_zero]; rfl)
            case tkq77 => exact fun _ _ _ h => h
            case tky77 => exact Or.inl ⟨by rfl, by intro wSw hSw; (try dsimp only at hSw); go_simp; try with_reducible rfl⟩
            try simp only [Act.put, List.setIfInBounds_toArray, List.set_cons_zero, List.set_cons_succ]
            refine wpAnyH_take (i := 63) (oi := ?tko78) (v := ?tkv78) ?tkh78 (by kernel_rfl) (by kernel_rfl) (by kernel_rfl) ?tkq78 ?tky78 hHeld ?tkr78
            case tkh78 => (simp only [List.getElem?_toArray, List.getElem?_cons_succ, List.getElem?_cons_zero]; rfl)
            case tkq78 => exact fun _ _ _ h => h
            case tky78 => exact Or.inl ⟨by rfl, by intro wSw hSw; (try dsimp only at hSw); go_simp; try with_reducible rfl⟩
            try simp only [Act.put, List.setIfInBounds_toArray, List.set_cons_zero, List.set_cons_succ]
            refine wpAnyH_take (i := 64) (oi := ?tko79) (v := ?tkv79) ?tkh79 (by kernel_rfl) (by kernel_rfl) (by kernel_rfl) ?tkq79 ?tky79 hHeld ?tkr79
            case tkh79 => (simp only [List.getElem?_toArray, List.getElem?_cons_succ, List.getElem?_cons_zero]; rfl)
            case tkq79 => exact fun _ _ _ h => h
            case tky79 => exact Or.inl ⟨by rfl, by intro wSw hSw; (try dsimp only at hSw); go_simp; try with_reducible rfl⟩
            try simp only [Act.put, List.setIfInBounds_toArray, List.set_cons_zero, List.set_cons_succ]
            refine wpAnyH_done (by kernel_rfl) ?_ _
            clear hHeld
            go_wp2_with fail
            go_roundw
            case rel => exact ⟨j + 1, by simp, by omega, HBD.out⟩
            case measure => (show n - (j + 1) < n - j; omega)
          | false =>
            clear hmo
            rw [Bool.false_or] at HO
            refine wp_region_held_drew (S := fun W => W.cell? ⟨BX, i, none⟩ = some (.slice (some ⟨RX i, 0, none⟩) n n) ∧ W.cell? ⟨RX i, j, none⟩ = some (.bool false) ∧ W.cell? ⟨BY, i, none⟩ = some (.slice (some ⟨RY i, 0, none⟩) n n) ∧ W.cell? ⟨RY i, j, none⟩ = some (.bool y) ∧ W.cell? ⟨BP, i, none⟩ = some (.slice (some ⟨RP i, 0, none⟩) n n) ∧ W.cell? ⟨RP i, j, none⟩ = some (.bool y) ∧ W.cell? ⟨BQ, i, none⟩ = some (.slice (some ⟨RQ i, 0, none⟩) n n) ∧ W.cell? ⟨RQ i, j, none⟩ = some (.bool qv) ∧ W.cell? ⟨BM, i, none⟩ = some (.slice (some ⟨RM i, 0, none⟩) n n) ∧ W.cell? ⟨RM i, j, none⟩ = some (.bool m)) (by kernel_rfl) HO.out (fun hHeld => ?_)
            refine wpAnyH_take (i := 0) (oi := ?tko80) (v := ?tkv80) ?tkh80 (by kernel_rfl) (by kernel_rfl) (by kernel_rfl) ?tkq80 ?tky80 hHeld ?tkr80
            case tkh80 => (simp only [List.getElem?_toArray, List.getElem?_cons_zero]; rfl)
            case tkq80 => exact fun _ _ _ h => h
            case tky80 => exact Or.inl ⟨by rfl, by intro wSw hSw; (try dsimp only at hSw); go_simp; try with_reducible rfl⟩
            try simp only [Act.put, List.setIfInBounds_toArray, List.set_cons_zero, List.set_cons_succ]
            refine wpAnyH_take (i := 1) (oi := ?tko81) (v := ?tkv81) ?tkh81 (by kernel_rfl) (by kernel_rfl) (by kernel_rfl) ?tkq81 ?tky81 hHeld ?tkr81
            case tkh81 => (simp only [List.getElem?_toArray, List.getElem?_cons_succ, List.getElem?_cons_zero]; rfl)
            case tkq81 => exact fun _ _ _ h => h
            case tky81 => exact Or.inl ⟨by rfl, by intro wSw hSw; (try dsimp only at hSw); go_simp; try with_reducible rfl⟩
            try simp only [Act.put, List.setIfInBounds_toArray, List.set_cons_zero, List.set_cons_succ]
            refine wpAnyH_take (i := 2) (oi := ?tko82) (v := ?tkv82) ?tkh82 (by kernel_rfl) (by kernel_rfl) (by kernel_rfl) ?tkq82 ?tky82 hHeld ?tkr82
            case tkh82 => (simp only [List.getElem?_toArray, List.getElem?_cons_succ, List.getElem?_cons_zero]; rfl)
            case tkq82 => exact fun _ _ _ h => h
            case tky82 => exact Or.inl ⟨by rfl, by intro wSw hSw; (try dsimp only at hSw); go_simp; try with_reducible rfl⟩
            try simp only [Act.put, List.setIfInBounds_toArray, List.set_cons_zero, List.set_cons_succ]
            refine wpAnyH_take (i := 3) (oi := ?tko83) (v := ?tkv83) ?tkh83 (by kernel_rfl) (by kernel_rfl) (by kernel_rfl) ?tkq83 ?tky83 hHeld ?tkr83
            case tkh83 => (simp only [List.getElem?_toArray, List.getElem?_cons_succ, List.getElem?_cons_zero]; rfl)
            case tkq83 => exact fun _ _ _ h => h
            case tky83 => exact Or.inl ⟨by rfl, by intro wSw hSw; (try dsimp only at hSw); go_simp; try with_reducible rfl⟩
            try simp only [Act.put, List.setIfInBounds_toArray, List.set_cons_zero, List.set_cons_succ]
            refine wpAnyH_take (i := 4) (oi := ?tko84) (v := ?tkv84) ?tkh84 (by kernel_rfl) (by kernel_rfl) (by kernel_rfl) ?tkq84 ?tky84 hHeld ?tkr84
            case tkh84 => (simp only [List.getElem?_toArray, List.getElem?_cons_succ, List.getElem?_cons_zero]; rfl)
            case tkq84 => exact fun _ _ _ h => h
            case tky84 => exact Or.inl ⟨by rfl, by intro wSw hSw; (try dsimp only at hSw); go_simp; try with_reducible rfl⟩
            try simp only [Act.put, List.setIfInBounds_toArray, List.set_cons_zero, List.set_cons_succ]
            refine wpAnyH_take (i := 5) (oi := ?tko85) (v := ?tkv85) ?tkh85 (by kernel_rfl) (by kernel_rfl) (by kernel_rfl) ?tkq85 ?tky85 hHeld ?tkr85
            case tkh85 => (simp only [List.getElem?_toArray, List.getElem?_cons_succ, List.getElem?_cons_zero]; rfl)
            case tkq85 => exact fun _ _ _ h => h
            case tky85 => exact Or.inl ⟨by rfl, by intro wSw hSw; (try dsimp only at hSw); go_simp; try with_reducible rfl⟩
            try simp only [Act.put, List.setIfInBounds_toArray, List.set_cons_zero, List.set_cons_succ]
            refine wpAnyH_take (i := 6) (oi := ?tko86) (v := ?tkv86) ?tkh86 (by kernel_rfl) (by kernel_rfl) (by kernel_rfl) ?tkq86 ?tky86 hHeld ?tkr86
            case tkh86 => (simp only [List.getElem?_toArray, List.getElem?_cons_succ, List.getElem?_cons_zero]; rfl)
            case tkq86 => exact fun _ _ _ h => h
            case tky86 => exact Or.inl ⟨by rfl, by intro wSw hSw; (try dsimp only at hSw); go_simp; try with_reducible rfl⟩
            try simp only [Act.put, List.setIfInBounds_toArray, List.set_cons_zero, List.set_cons_succ]
            refine wpAnyH_take (i := 7) (oi := ?tko87) (v := ?tkv87) ?tkh87 (by kernel_rfl) (by kernel_rfl) (by kernel_rfl) ?tkq87 ?tky87 hHeld ?tkr87
            case tkh87 => (simp only [List.getElem?_toArray, List.getElem?_cons_succ, List.getElem?_cons_zero]; rfl)
            case tkq87 => exact fun _ _ _ h => h
            case tky87 => exact Or.inl ⟨by rfl, by intro wSw hSw; (try dsimp only at hSw); go_simp; try with_reducible rfl⟩
            try simp only [Act.put, List.setIfInBounds_toArray, List.set_cons_zero, List.set_cons_succ]
            refine wpAnyH_take (i := 8) (oi := ?tko88) (v := ?tkv88) ?tkh88 (by kernel_rfl) (by kernel_rfl) (by kernel_rfl) ?tkq88 ?tky88 hHeld ?tkr88
            case tkh88 => (simp only [List.getElem?_toArray, List.getElem?_cons_succ, List.getElem?_cons_zero]; rfl)
            case tkq88 => exact fun _ _ _ h => h
            case tky88 => exact Or.inl ⟨by rfl, by intro wSw hSw; (try dsimp only at hSw); go_simp; try with_reducible rfl⟩
            try simp only [Act.put, List.setIfInBounds_toArray, List.set_cons_zero, List.set_cons_succ]
            refine wpAnyH_take (i := 9) (oi := ?tko89) (v := ?tkv89) ?tkh89 (by kernel_rfl) (by kernel_rfl) (by kernel_rfl) ?tkq89 ?tky89 hHeld ?tkr89
            case tkh89 => (simp only [List.getElem?_toArray, List.getElem?_cons_succ, List.getElem?_cons_zero]; rfl)
            case tkq89 => exact fun _ _ _ h => h
            case tky89 => exact Or.inl ⟨by rfl, by intro wSw hSw; (try dsimp only at hSw); go_simp; try with_reducible rfl⟩
            try simp only [Act.put, List.setIfInBounds_toArray, List.set_cons_zero, List.set_cons_succ]
            refine wpAnyH_take (i := 10) (oi := ?tko90) (v := ?tkv90) ?tkh90 (by kernel_rfl) (by kernel_rfl) (by kernel_rfl) ?tkq90 ?tky90 hHeld ?tkr90
            case tkh90 => (simp only [List.getElem?_toArray, List.getElem?_cons_succ, List.getElem?_cons_zero]; rfl)
            case tkq90 => exact fun _ _ _ h => h
            case tky90 => exact Or.inl ⟨by rfl, by intro wSw hSw; (try dsimp only at hSw); go_simp; try with_reducible rfl⟩
            try simp only [Act.put, List.setIfInBounds_toArray, List.set_cons_zero, List.set_cons_succ]
            refine wpAnyH_take (i := 11) (oi := ?tko91) (v := ?tkv91) ?tkh91 (by kernel_rfl) (by kernel_rfl) (by kernel_rfl) ?tkq91 ?tky91 hHeld ?tkr91
            case tkh91 => (simp only [List.getElem?_toArray, List.getElem?_cons_succ, List.getElem?_cons_zero]; rfl)
            case tkq91 => exact fun _ _ _ h => h
            case tky91 => exact Or.inl ⟨by rfl, by intro wSw hSw; (try dsimp only at hSw); go_simp; try with_reducible rfl⟩
            try simp only [Act.put, List.setIfInBounds_toArray, List.set_cons_zero, List.set_cons_succ]
            refine wpAnyH_take (i := 12) (oi := ?tko92) (v := ?tkv92) ?tkh92 (by kernel_rfl) (by kernel_rfl) (by kernel_rfl) ?tkq92 ?tky92 hHeld ?tkr92
            case tkh92 => (simp only [List.getElem?_toArray, List.getElem?_cons_succ, List.getElem?_cons_zero]; rfl)
            case tkq92 => exact fun _ _ _ h => h
            case tky92 => exact Or.inl ⟨by rfl, by intro wSw hSw; (try dsimp only at hSw); go_simp; try with_reducible rfl⟩
            try simp only [Act.put, List.setIfInBounds_toArray, List.set_cons_zero, List.set_cons_succ]
            refine wpAnyH_take (i := 13) (oi := ?tko93) (v := ?tkv93) ?tkh93 (by kernel_rfl) (by kernel_rfl) (by kernel_rfl) ?tkq93 ?tky93 hHeld ?tkr93
            case tkh93 => (simp only [List.getElem?_toArray, List.getElem?_cons_succ, List.getElem?_cons_zero]; rfl)
            case tkq93 => exact fun _ _ _ h => h
            case tky93 => exact Or.inl ⟨by rfl, by intro wSw hSw; (try dsimp only at hSw); go_simp; try with_reducible rfl⟩
            try simp only [Act.put, List.setIfInBounds_toArray, List.set_cons_zero, List.set_cons_succ]
            refine wpAnyH_take (i := 14) (oi := ?tko94) (v := ?tkv94) ?tkh94 (by kernel_rfl) (by kernel_rfl) (by kernel_rfl) ?tkq94 ?tky94 hHeld ?tkr94
            case tkh94 => (simp only [List.getElem?_toArray, List.getElem?_cons_succ, List.getElem?_cons_zero]; rfl)
            case tkq94 => exact fun _ _ _ h => h
            case tky94 => exact Or.inl ⟨by rfl, by intro wSw hSw; (try dsimp only at hSw); go_simp; try with_reducible rfl⟩
            try simp only [Act.put, List.setIfInBounds_toArray, List.set_cons_zero, List.set_cons_succ]
            refine wpAnyH_take (i := 15) (oi := ?tko95) (v := ?tkv95) ?tkh95 (by kernel_rfl) (by kernel_rfl) (by kernel_rfl) ?tkq95 ?tky95 hHeld ?tkr95
            case tkh95 => (simp only [List.getElem?_toArray, List.getElem?_cons_succ, List.getElem?_cons_zero]; rfl)
            case tkq95 => exact fun _ _ _ h => h
            case tky95 => exact Or.inl ⟨by rfl, by intro wSw hSw; (try dsimp only at hSw); go_simp; try with_reducible rfl⟩
            try simp only [Act.put, List.setIfInBounds_toArray, List.set_cons_zero, List.set_cons_succ]
            refine wpAnyH_take (i := 16) (oi := ?tko96) (v := ?tkv96) ?tkh96 (by kernel_rfl) (by kernel_rfl) (by kernel_rfl) ?tkq96 ?tky96 hHeld ?tkr96
            case tkh96 => (simp only [List.getElem?_toArray, List.getElem?_cons_succ, List.getElem?_cons_zero]; rfl)
            case tkq96 => exact fun _ _ _ h => h
            case tky96 => exact Or.inl ⟨by rfl, by intro wSw hSw; (try dsimp only at hSw); go_simp; try with_reducible rfl⟩
            try simp only [Act.put, List.setIfInBounds_toArray, List.set_cons_zero, List.set_cons_succ]
            refine wpAnyH_take (i := 17) (oi := ?tko97) (v := ?tkv97) ?tkh97 (by kernel_rfl) (by kernel_rfl) (by kernel_rfl) ?tkq97 ?tky97 hHeld ?tkr97
            case tkh97 => (simp only [List.getElem?_toArray, List.getElem?_cons_succ, List.getElem?_cons_zero]; rfl)
            case tkq97 => exact fun _ _ _ h => h
            case tky97 => exact Or.inl ⟨by rfl, by intro wSw hSw; (try dsimp only at hSw); go_simp; try with_reducible rfl⟩
            try simp only [Act.put, List.setIfInBounds_toArray, List.set_cons_zero, List.set_cons_succ]
            refine wpAnyH_take (i := 18) (oi := ?tko98) (v := ?tkv98) ?tkh98 (by kernel_rfl) (by kernel_rfl) (by kernel_rfl) ?tkq98 ?tky98 hHeld ?tkr98
            case tkh98 => (simp only [List.getElem?_toArray, List.getElem?_cons_succ, List.getElem?_cons_zero]; rfl)
            case tkq98 => exact fun _ _ _ h => h
            case tky98 => exact Or.inl ⟨by rfl, by intro wSw hSw; (try dsimp only at hSw); go_simp; try with_reducible rfl⟩
            try simp only [Act.put, List.setIfInBounds_toArray, List.set_cons_zero, List.set_cons_succ]
            refine wpAnyH_take (i := 19) (oi := ?tko99) (v := ?tkv99) ?tkh99 (by kernel_rfl) (by kernel_rfl) (by kernel_rfl) ?tkq99 ?tky99 hHeld ?tkr99
            case tkh99 => (simp only [List.getElem?_toArray, List.getElem?_cons_succ, List.getElem?_cons_zero]; rfl)
            case tkq99 => exact fun _ _ _ h => h
            case tky99 => exact Or.inl ⟨by rfl, by intro wSw hSw; (try dsimp only at hSw); go_simp; try with_reducible rfl⟩
            try simp only [Act.put, List.setIfInBounds_toArray, List.set_cons_zero, List.set_cons_succ]
            refine wpAnyH_take (i := 20) (oi := ?tko100) (v := ?tkv100) ?tkh100 (by kernel_rfl) (by kernel_rfl) (by kernel_rfl) ?tkq100 ?tky100 hHeld ?tkr100
            case tkh100 => (simp only [List.getElem?_toArray, List.getElem?_cons_succ, List.getElem?_cons_zero]; rfl)
            case tkq100 => exact fun _ _ _ h => h
            case tky100 => exact Or.inl ⟨by rfl, by intro wSw hSw; (try dsimp only at hSw); go_simp; try with_reducible rfl⟩
            try simp only [Act.put, List.setIfInBounds_toArray, List.set_cons_zero, List.set_cons_succ]
            refine wpAnyH_take (i := 21) (oi := ?tko101) (v := ?tkv101) ?tkh101 (by kernel_rfl) (by kernel_rfl) (by kernel_rfl) ?tkq101 ?tky101 hHeld ?tkr101
            case tkh101 => (simp only [List.getElem?_toArray, List.getElem?_cons_succ, List.getElem?_cons_zero]; rfl)
            case tkq101 => exact fun _ _ _ h => h
            case tky101 => exact Or.inl ⟨by rfl, by intro wSw hSw; (try dsimp only at hSw); go_simp; try with_reducible rfl⟩
            try simp only [Act.put, List.setIfInBounds_toArray, List.set_cons_zero, List.set_cons_succ]
            refine wpAnyH_take (i := 22) (oi := ?tko102) (v := ?tkv102) ?tkh102 (by kernel_rfl) (by kernel_rfl) (by kernel_rfl) ?tkq102 ?tky102 hHeld ?tkr102
            case tkh102 => (simp only [List.getElem?_toArray, List.getElem?_cons_succ, List.getElem?_cons_zero]; rfl)
            case tkq102 => exact fun _ _ _ h => h
            case tky102 => exact Or.inl ⟨by rfl, by intro wSw hSw; (try dsimp only at hSw); go_simp; try with_reducible rfl⟩
            try simp only [Act.put, List.setIfInBounds_toArray, List.set_cons_zero, List.set_cons_succ]
            refine wpAnyH_take (i := 23) (oi := ?tko103) (v := ?tkv103) ?tkh103 (by kernel_rfl) (by kernel_rfl) (by kernel_rfl) ?tkq103 ?tky103 hHeld ?tkr103
            case tkh103 => (simp only [List.getElem?_toArray, List.getElem?_cons_succ, List.getElem?_cons_zero]; rfl)
            case tkq103 => exact fun _ _ _ h => h
            case tky103 => exact Or.inl ⟨by rfl, by intro wSw hSw; (try dsimp only at hSw); go_simp; try with_reducible rfl⟩
            try simp only [Act.put, List.setIfInBounds_toArray, List.set_cons_zero, List.set_cons_succ]
            refine wpAnyH_take (i := 24) (oi := ?tko104) (v := ?tkv104) ?tkh104 (by kernel_rfl) (by kernel_rfl) (by kernel_rfl) ?tkq104 ?tky104 hHeld ?tkr104
            case tkh104 => (simp only [List.getElem?_toArray, List.getElem?_cons_succ, List.getElem?_cons_zero]; rfl)
            case tkq104 => exact fun _ _ _ h => h
            case tky104 => exact Or.inl ⟨by rfl, by intro wSw hSw; (try dsimp only at hSw); go_simp; try with_reducible rfl⟩
            try simp only [Act.put, List.setIfInBounds_toArray, List.set_cons_zero, List.set_cons_succ]
            refine wpAnyH_take (i := 25) (oi := ?tko105) (v := ?tkv105) ?tkh105 (by kernel_rfl) (by kernel_rfl) (by kernel_rfl) ?tkq105 ?tky105 hHeld ?tkr105
            case tkh105 => (simp only [List.getElem?_toArray, List.getElem?_cons_succ, List.getElem?_cons_zero]; rfl)
            case tkq105 => exact fun _ _ _ h => h
            case tky105 => exact Or.inl ⟨by rfl, by intro wSw hSw; (try dsimp only at hSw); go_simp; try with_reducible rfl⟩
            try simp only [Act.put, List.setIfInBounds_toArray, List.set_cons_zero, List.set_cons_succ]
            refine wpAnyH_take (i := 26) (oi := ?tko106) (v := ?tkv106) ?tkh106 (by kernel_rfl) (by kernel_rfl) (by kernel_rfl) ?tkq106 ?tky106 hHeld ?tkr106
            case tkh106 => (simp only [List.getElem?_toArray, List.getElem?_cons_succ, List.getElem?_cons_zero]; rfl)
            case tkq106 => exact fun _ _ _ h => h
            case tky106 => exact Or.inl ⟨by rfl, by intro wSw hSw; (try dsimp only at hSw); go_simp; try with_reducible rfl⟩
            try simp only [Act.put, List.setIfInBounds_toArray, List.set_cons_zero, List.set_cons_succ]
            refine wpAnyH_take (i := 27) (oi := ?tko107) (v := ?tkv107) ?tkh107 (by kernel_rfl) (by kernel_rfl) (by kernel_rfl) ?tkq107 ?tky107 hHeld ?tkr107
            case tkh107 => (simp only [List.getElem?_toArray, List.getElem?_cons_succ, List.getElem?_cons_zero]; rfl)
            case tkq107 => exact fun _ _ _ h => h
            case tky107 => exact Or.inl ⟨by rfl, by intro wSw hSw; (try dsimp only at hSw); go_simp; try with_reducible rfl⟩
            try simp only [Act.put, List.setIfInBounds_toArray, List.set_cons_zero, List.set_cons_succ]
            refine wpAnyH_take (i := 28) (oi := ?tko108) (v := ?tkv108) ?tkh108 (by kernel_rfl) (by kernel_rfl) (by kernel_rfl) ?tkq108 ?tky108 hHeld ?tkr108
            case tkh108 => (simp only [List.getElem?_toArray, List.getElem?_cons_succ, List.getElem?_cons_zero]; rfl)
            case tkq108 => exact fun _ _ _ h => h
            case tky108 => exact Or.inl ⟨by rfl, by intro wSw hSw; (try dsimp only at hSw); go_simp; try with_reducible rfl⟩
            try simp only [Act.put, List.setIfInBounds_toArray, List.set_cons_zero, List.set_cons_succ]
            refine wpAnyH_take (i := 29) (oi := ?tko109) (v := ?tkv109) ?tkh109 (by kernel_rfl) (by kernel_rfl) (by kernel_rfl) ?tkq109 ?tky109 hHeld ?tkr109
            case tkh109 => (simp only [List.getElem?_toArray, List.getElem?_cons_succ, List.getElem?_cons_zero]; rfl)
            case tkq109 => exact fun _ _ _ h => h
            case tky109 => exact Or.inl ⟨by rfl, by intro wSw hSw; (try dsimp only at hSw); go_simp; try with_reducible rfl⟩
            try simp only [Act.put, List.setIfInBounds_toArray, List.set_cons_zero, List.set_cons_succ]
            refine wpAnyH_take (i := 30) (oi := ?tko110) (v := ?tkv110) ?tkh110 (by kernel_rfl) (by kernel_rfl) (by kernel_rfl) ?tkq110 ?tky110 hHeld ?tkr110
            case tkh110 => (simp only [List.getElem?_toArray, List.getElem?_cons_succ, List.getElem?_cons_zero]; rfl)
            case tkq110 => exact fun _ _ _ h => h
            case tky110 => exact Or.inl ⟨by rfl, by intro wSw hSw; (try dsimp only at hSw); go_simp; try with_reducible rfl⟩
            try simp only [Act.put, List.setIfInBounds_toArray, List.set_cons_zero, List.set_cons_succ]
            refine wpAnyH_take (i := 31) (oi := ?tko111) (v := ?tkv111) ?tkh111 (by kernel_rfl) (by kernel_rfl) (by kernel_rfl) ?tkq111 ?tky111 hHeld ?tkr111
            case tkh111 => (simp only [List.getElem?_toArray, List.getElem?_cons_succ, List.getElem?_cons_zero]; rfl)
            case tkq111 => exact fun _ _ _ h => h
            case tky111 => exact Or.inl ⟨by rfl, by intro wSw hSw; (try dsimp only at hSw); go_simp; try with_reducible rfl⟩
            try simp only [Act.put, List.setIfInBounds_toArray, List.set_cons_zero, List.set_cons_succ]
            refine wpAnyH_take (i := 32) (oi := ?tko112) (v := ?tkv112) ?tkh112 (by kernel_rfl) (by kernel_rfl) (by kernel_rfl) ?tkq112 ?tky112 hHeld ?tkr112
            case tkh112 => (simp only [List.getElem?_toArray, List.getElem?_cons_succ, List.getElem?_cons_zero]; rfl)
            case tkq112 => exact fun _ _ _ h => h
            case tky112 => exact Or.inl ⟨by rfl, by intro wSw hSw; (try dsimp only at hSw); go_simp; try with_reducible rfl⟩
            try simp only [Act.put, List.setIfInBounds_toArray, List.set_cons_zero, List.set_cons_succ]
            refine wpAnyH_take (i := 33) (oi := ?tko113) (v := ?tkv113) ?tkh113 (by kernel_rfl) (by kernel_rfl) (by kernel_rfl) ?tkq113 ?tky113 hHeld ?tkr113
            case tkh113 => (simp only [List.getElem?_toArray, List.getElem?_cons_succ, List.getElem?_cons_zero]; rfl)
            case tkq113 => exact fun _ _ _ h => h
            case tky113 => exact Or.inl ⟨by rfl, by intro wSw hSw; (try dsimp only at hSw); go_simp; try with_reducible rfl⟩
            try simp only [Act.put, List.setIfInBounds_toArray, List.set_cons_zero, List.set_cons_succ]
            refine wpAnyH_take (i := 34) (oi := ?tko114) (v := ?tkv114) ?tkh114 (by kernel_rfl) (by kernel_rfl) (by kernel_rfl) ?tkq114 ?tky114 hHeld ?tkr114
            case tkh114 => (simp only [List.getElem?_toArray, List.getElem?_cons_succ, List.getElem?_cons_zero]; rfl)
            case tkq114 => exact fun _ _ _ h => h
            case tky114 => exact Or.inl ⟨by rfl, by intro wSw hSw; (try dsimp only at hSw); go_simp; try with_reducible rfl⟩
            try simp only [Act.put, List.setIfInBounds_toArray, List.set_cons_zero, List.set_cons_succ]
            refine wpAnyH_take (i := 35) (oi := ?tko115) (v := ?tkv115) ?tkh115 (by kernel_rfl) (by kernel_rfl) (by kernel_rfl) ?tkq115 ?tky115 hHeld ?tkr115
            case tkh115 => (simp only [List.getElem?_toArray, List.getElem?_cons_succ, List.getElem?_cons_zero]; rfl)
            case tkq115 => exact fun _ _ _ h => h
            case tky115 => exact Or.inl ⟨by rfl, by intro wSw hSw; (try dsimp only at hSw); go_simp; try with_reducible rfl⟩
            try simp only [Act.put, List.setIfInBounds_toArray, List.set_cons_zero, List.set_cons_succ]
            refine wpAnyH_take (i := 36) (oi := ?tko116) (v := ?tkv116) ?tkh116 (by kernel_rfl) (by kernel_rfl) (by kernel_rfl) ?tkq116 ?tky116 hHeld ?tkr116
            case tkh116 => (simp only [List.getElem?_toArray, List.getElem?_cons_succ, List.getElem?_cons_zero]; rfl)
            case tkq116 => exact fun _ _ _ h => h
            case tky116 => exact Or.inl ⟨by rfl, by intro wSw hSw; (try dsimp only at hSw); go_simp; try with_reducible rfl⟩
            try simp only [Act.put, List.setIfInBounds_toArray, List.set_cons_zero, List.set_cons_succ]
            refine wpAnyH_take (i := 37) (oi := ?tko117) (v := ?tkv117) ?tkh117 (by kernel_rfl) (by kernel_rfl) (by kernel_rfl) ?tkq117 ?tky117 hHeld ?tkr117
            case tkh117 => (simp only [List.getElem?_toArray, List.getElem?_cons_succ, List.getElem?_cons_zero]; rfl)
            case tkq117 => exact fun _ _ _ h => h
            case tky117 => exact Or.inl ⟨by rfl, by intro wSw hSw; (try dsimp only at hSw); go_simp; try with_reducible rfl⟩
            try simp only [Act.put, List.setIfInBounds_toArray, List.set_cons_zero, List.set_cons_succ]
            refine wpAnyH_take (i := 38) (oi := ?tko118) (v := ?tkv118) ?tkh118 (by kernel_rfl) (by kernel_rfl) (by kernel_rfl) ?tkq118 ?tky118 hHeld ?tkr118
            case tkh118 => (simp only [List.getElem?_toArray, List.getElem?_cons_succ, List.getElem?_cons_zero]; rfl)
            case tkq118 => exact fun _ _ _ h => h
            case tky118 => exact Or.inl ⟨by rfl, by intro wSw hSw; (try dsimp only at hSw); go_simp; try with_reducible rfl⟩
            try simp only [Act.put, List.setIfInBounds_toArray, List.set_cons_zero, List.set_cons_succ]
            refine wpAnyH_take (i := 39) (oi := ?tko119) (v := ?tkv119) ?tkh119 (by kernel_rfl) (by kernel_rfl) (by kernel_rfl) ?tkq119 ?tky119 hHeld ?tkr119
            case tkh119 => (simp only [List.getElem?_toArray, List.getElem?_cons_succ, List.getElem?_cons_zero]; rfl)
            case tkq119 => exact fun _ _ _ h => h
            case tky119 => exact Or.inl ⟨by rfl, by intro wSw hSw; (try dsimp only at hSw); go_simp; try with_reducible rfl⟩
            try simp only [Act.put, List.setIfInBounds_toArray, List.set_cons_zero, List.set_cons_succ]
            refine wpAnyH_take (i := 40) (oi := ?tko120) (v := ?tkv120) ?tkh120 (by kernel_rfl) (by kernel_rfl) (by kernel_rfl) ?tkq120 ?tky120 hHeld ?tkr120
            case tkh120 => (simp only [List.getElem?_toArray, List.getElem?_cons_succ, List.getElem?_cons_zero]; rfl)
            case tkq120 => exact fun _ _ _ h => h
            case tky120 => exact Or.inl ⟨by rfl, by intro wSw hSw; (try dsimp only at hSw); go_simp; try with_reducible rfl⟩
            try simp only [Act.put, List.setIfInBounds_toArray, List.set_cons_zero, List.set_cons_succ]
            refine wpAnyH_take (i := 41) (oi := ?tko121) (v := ?tkv121) ?tkh121 (by kernel_rfl) (by kernel_rfl) (by kernel_rfl) ?tkq121 ?tky121 hHeld ?tkr121
            case tkh121 => (simp only [List.getElem?_toArray, List.getElem?_cons_succ, List.getElem?_cons_zero]; rfl)
            case tkq121 => exact fun _ _ _ h => h
            case tky121 => exact Or.inl ⟨by rfl, by intro wSw hSw; (try dsimp only at hSw); go_simp; try with_reducible rfl⟩
            try simp only [Act.put, List.setIfInBounds_toArray, List.set_cons_zero, List.set_cons_succ]
            refine wpAnyH_take (i := 42) (oi := ?tko122) (v := ?tkv122) ?tkh122 (by kernel_rfl) (by kernel_rfl) (by kernel_rfl) ?tkq122 ?tky122 hHeld ?tkr122
            case tkh122 => (simp only [List.getElem?_toArray, List.getElem?_cons_succ, List.getElem?_cons_zero]; rfl)
            case tkq122 => exact fun _ _ _ h => h
            case tky122 => exact Or.inl ⟨by rfl, by intro wSw hSw; (try dsimp only at hSw); go_simp; try with_reducible rfl⟩
            try simp only [Act.put, List.setIfInBounds_toArray, List.set_cons_zero, List.set_cons_succ]
            refine wpAnyH_take (i := 43) (oi := ?tko123) (v := ?tkv123) ?tkh123 (by kernel_rfl) (by kernel_rfl) (by kernel_rfl) ?tkq123 ?tky123 hHeld ?tkr123
            case tkh123 => (simp only [List.getElem?_toArray, List.getElem?_cons_succ, List.getElem?_cons_zero]; rfl)
            case tkq123 => exact fun _ _ _ h => h
            case tky123 => exact Or.inl ⟨by rfl, by intro wSw hSw; (try dsimp only at hSw); go_simp; try with_reducible rfl⟩
            try simp only [Act.put, List.setIfInBounds_toArray, List.set_cons_zero, List.set_cons_succ]
            refine wpAnyH_take (i := 44) (oi := ?tko124) (v := ?tkv124) ?tkh124 (by kernel_rfl) (by kernel_rfl) (by kernel_rfl) ?tkq124 ?tky124 hHeld ?tkr124
            case tkh124 => (simp only [List.getElem?_toArray, List.getElem?_cons_succ, List.getElem?_cons_zero]; rfl)
            case tkq124 => exact fun _ _ _ h => h
            case tky124 => exact Or.inl ⟨by rfl, by intro wSw hSw; (try dsimp only at hSw); go_simp; try with_reducible rfl⟩
            try simp only [Act.put, List.setIfInBounds_toArray, List.set_cons_zero, List.set_cons_succ]
            refine wpAnyH_take (i := 45) (oi := ?tko125) (v := ?tkv125) ?tkh125 (by kernel_rfl) (by kernel_rfl) (by kernel_rfl) ?tkq125 ?tky125 hHeld ?tkr125
            case tkh125 => (simp only [List.getElem?_toArray, List.getElem?_cons_succ, List.getElem?_cons_zero]; rfl)
            case tkq125 => exact fun _ _ _ h => h
            case tky125 => exact Or.inl ⟨by rfl, by intro wSw hSw; (try dsimp only at hSw); go_simp; try with_reducible rfl⟩
            try simp only [Act.put, List.setIfInBounds_toArray, List.set_cons_zero, List.set_cons_succ]
            refine wpAnyH_take (i := 46) (oi := ?tko126) (v := ?tkv126) ?tkh126 (by kernel_rfl) (by kernel_rfl) (by kernel_rfl) ?tkq126 ?tky126 hHeld ?tkr126
            case tkh126 => (simp only [List.getElem?_toArray, List.getElem?_cons_succ, List.getElem?_cons_zero]; rfl)
            case tkq126 => exact fun _ _ _ h => h
            case tky126 => exact Or.inl ⟨by rfl, by intro wSw hSw; (try dsimp only at hSw); go_simp; try with_reducible rfl⟩
            try simp only [Act.put, List.setIfInBounds_toArray, List.set_cons_zero, List.set_cons_succ]
            refine wpAnyH_take (i := 47) (oi := ?tko127) (v := ?tkv127) ?tkh127 (by kernel_rfl) (by kernel_rfl) (by kernel_rfl) ?tkq127 ?tky127 hHeld ?tkr127
            case tkh127 => (simp only [List.getElem?_toArray, List.getElem?_cons_succ, List.getElem?_cons_zero]; rfl)
            case tkq127 => exact fun _ _ _ h => h
            case tky127 => exact Or.inl ⟨by rfl, by intro wSw hSw; (try dsimp only at hSw); go_simp; try with_reducible rfl⟩
            try simp only [Act.put, List.setIfInBounds_toArray, List.set_cons_zero, List.set_cons_succ]
            refine wpAnyH_take (i := 48) (oi := ?tko128) (v := ?tkv128) ?tkh128 (by kernel_rfl) (by kernel_rfl) (by kernel_rfl) ?tkq128 ?tky128 hHeld ?tkr128
            case tkh128 => (simp only [List.getElem?_toArray, List.getElem?_cons_succ, List.getElem?_cons_zero]; rfl)
            case tkq128 => exact fun _ _ _ h => h
            case tky128 => exact Or.inl ⟨by rfl, by intro wSw hSw; (try dsimp only at hSw); go_simp; try with_reducible rfl⟩
            try simp only [Act.put, List.setIfInBounds_toArray, List.set_cons_zero, List.set_cons_succ]
            refine wpAnyH_take (i := 49) (oi := ?tko129) (v := ?tkv129) ?tkh129 (by kernel_rfl) (by kernel_rfl) (by kernel_rfl) ?tkq129 ?tky129 hHeld ?tkr129
            case tkh129 => (simp only [List.getElem?_toArray, List.getElem?_cons_succ, List.getElem?_cons_zero]; rfl)
            case tkq129 => exact fun _ _ _ h => h
            case tky129 => exact Or.inl ⟨by rfl, by intro wSw hSw; (try dsimp only at hSw); go_simp; try with_reducible rfl⟩
            try simp only [Act.put, List.setIfInBounds_toArray, List.set_cons_zero, List.set_cons_succ]
            refine wpAnyH_take (i := 50) (oi := ?tko130) (v := ?tkv130) ?tkh130 (by kernel_rfl) (by kernel_rfl) (by kernel_rfl) ?tkq130 ?tky130 hHeld ?tkr130
            case tkh130 => (simp only [List.getElem?_toArray, List.getElem?_cons_succ, List.getElem?_cons_zero]; rfl)
            case tkq130 => exact fun _ _ _ h => h
            case tky130 => exact Or.inl ⟨by rfl, by intro wSw hSw; (try dsimp only at hSw); go_simp; try with_reducible rfl⟩
            try simp only [Act.put, List.setIfInBounds_toArray, List.set_cons_zero, List.set_cons_succ]
            refine wpAnyH_take (i := 51) (oi := ?tko131) (v := ?tkv131) ?tkh131 (by kernel_rfl) (by kernel_rfl) (by kernel_rfl) ?tkq131 ?tky131 hHeld ?tkr131
            case tkh131 => (simp only [List.getElem?_toArray, List.getElem?_cons_succ, List.getElem?_cons_zero]; rfl)
            case tkq131 => exact fun _ _ _ h => h
            case tky131 => exact Or.inl ⟨by rfl, by intro wSw hSw; (try dsimp only at hSw); go_simp; try with_reducible rfl⟩
            try simp only [Act.put, List.setIfInBounds_toArray, List.set_cons_zero, List.set_cons_succ]
            refine wpAnyH_take (i := 52) (oi := ?tko132) (v := ?tkv132) ?tkh132 (by kernel_rfl) (by kernel_rfl) (by kernel_rfl) ?tkq132 ?tky132 hHeld ?tkr132
            case tkh132 => (simp only [List.getElem?_toArray, List.getElem?_cons_succ, List.getElem?_cons_zero]; rfl)
            case tkq132 => exact fun _ _ _ h => h
            case tky132 => exact Or.inl ⟨by rfl, by intro wSw hSw; (try dsimp only at hSw); go_simp; try with_reducible rfl⟩
            try simp only [Act.put, List.setIfInBounds_toArray, List.set_cons_zero, List.set_cons_succ]
            refine wpAnyH_take (i := 53) (oi := ?tko133) (v := ?tkv133) ?tkh133 (by kernel_rfl) (by kernel_rfl) (by kernel_rfl) ?tkq133 ?tky133 hHeld ?tkr133
            case tkh133 => (simp only [List.getElem?_toArray, List.getElem?_cons_succ, List.getElem?_cons_zero]; rfl)
            case tkq133 => exact fun _ _ _ h => h
            case tky133 => exact Or.inl ⟨by rfl, by intro wSw hSw; (try dsimp only at hSw); go_simp; try with_reducible rfl⟩
            try simp only [Act.put, List.setIfInBounds_toArray, List.set_cons_zero, List.set_cons_succ]
            refine wpAnyH_take (i := 54) (oi := ?tko134) (v := ?tkv134) ?tkh134 (by kernel_rfl) (by kernel_rfl) (by kernel_rfl) ?tkq134 ?tky134 hHeld ?tkr134
            case tkh134 => (simp only [List.getElem?_toArray, List.getElem?_cons_succ, List.getElem?_cons_zero]; rfl)
            case tkq134 => exact fun _ _ _ h => h
            case tky134 => exact Or.inl ⟨by rfl, by intro wSw hSw; (try dsimp only at hSw); go_simp; try with_reducible rfl⟩
            try simp only [Act.put, List.setIfInBounds_toArray, List.set_cons_zero, List.set_cons_succ]
            refine Skips.skips (by kernel_rfl) (fun _ _ _ _ _ h => h) hHeld [55, 56, 57, 58, 59, 60, 61, 62] _ 2 _ _ (by kernel_rfl) ?tkk135 ?tkr135
            case tkk135 => kernel_rfl
            simp only [Skips.skipAct, Skips.skipListed, List.getElem?_toArray, List.getElem?_cons_succ, List.getElem?_cons_zero, Act.put, List.setIfInBounds_toArray, List.set_cons_zero, List.set_cons_succ]
            refine wpAnyH_take (i := 63) (oi := ?tko136) (v := ?tkv136) ?tkh136 (by kernel_rfl) (by kernel_rfl) (by kernel_rfl) ?tkq136 ?tky136 hHeld ?tkr136
            case tkh136 => (simp only [List.getElem?_toArray, List.getElem?_cons_succ, List.getElem?_cons_zero]; rfl)
            case tkq136 => exact fun _ _ _ h => h
            case tky136 => exact Or.inl ⟨by rfl, by intro wSw hSw; (try dsimp only at hSw); go_simp; try with_reducible rfl⟩
            try simp only [Act.put, List.setIfInBounds_toArray, List.set_cons_zero, List.set_cons_succ]
            refine wpAnyH_take (i := 64) (oi := ?tko137) (v := ?tkv137) ?tkh137 (by kernel_rfl) (by kernel_rfl) (by kernel_rfl) ?tkq137 ?tky137 hHeld ?tkr137
            case tkh137 => (simp only [List.getElem?_toArray, List.getElem?_cons_succ, List.getElem?_cons_zero]; rfl)
            case tkq137 => exact fun _ _ _ h => h
            case tky137 => exact Or.inl ⟨by rfl, by intro wSw hSw; (try dsimp only at hSw); go_simp; try with_reducible rfl⟩
            try simp only [Act.put, List.setIfInBounds_toArray, List.set_cons_zero, List.set_cons_succ]
            refine wpAnyH_done (by kernel_rfl) ?_ _
            clear hHeld
            go_wp2_with fail
            go_roundw
            case rel => exact ⟨j + 1, by simp, by omega, HBD.out⟩
            case measure => (show n - (j + 1) < n - j; omega)
end Go.Proofs.Ytcpmcgbjmncalaa.Paths
