/-
  The law PathsLocal (stage 14). By an AI agent. (Written by wip/tools/genlaw4_14.py.)
-/
import Derived.Test.YtcpmcgbjmncalaaGPathsLocal20
import Derived.Test.YtcpmcgbjmncalaaGPathsLocal36
import Derived.Test.YtcpmcgbjmncalaaGPathsLocal37
import Derived.Test.YtcpmcgbjmncalaaGPathsLocal43
import Derived.Test.YtcpmcgbjmncalaaGPathsLocal16
namespace Go.Proofs.Ytcpmcgbjmncalaa.Paths
open Go.RowKit Go.Shelf Go.Proofs.Ytcpmcgbjmncalaa.Ints Go.Proofs.Ytcpmcgbjmncalaa.Mem Go.Proofs.Ytcpmcgbjmncalaa.Src Go.Proofs.Ytcpmcgbjmncalaa.Tree Go.Proofs.Ytcpmcgbjmncalaa.BitsWalks Go.Proofs.Ytcpmcgbjmncalaa.RdW Go.Proofs.Ytcpmcgbjmncalaa.Words

/-- A part of the points. -/
theorem rdV_part {w : World} {V : Option Addr} {n c i k : Nat} {vs : Nat → List Nat} (h : RdV w V n vs) (hnc : n ≤ c) (hi : i + k ≤ n) : RdV w (Tree.fromAddr V c i 1) k (fun p => vs (p + i)) := fun h0 => by
  obtain ⟨b, off, e, hc⟩ := h (by omega)
  refine ⟨b, off + i, ?_, fun p hp => ?_⟩
  · unfold Tree.fromAddr
    rw [if_neg (by omega), e]
    simp [Addr.add]
  · obtain ⟨K, q, c2, h1, h2⟩ := hc (p + i) (by omega)
    exact ⟨K, q, c2, by rw [show off + i + p = off + (p + i) by omega]; exact h1, h2⟩
theorem local_le {l : List Nd} (h : regL l = true) {vs : Nat → List Nat} {n a b : Nat} (ha : a < n) (hb : b < n) (ht : tableR l vs n a b = true) : a ≤ b := wayR_le _ _ _ _ _ _ ((table_tree h vs n ha hb).1 ht)
theorem local_cut {l : List Nd} (h : regL l = true) {vs : Nat → List Nat} {n m i a b : Nat} (hi : m + i ≤ n) (ha : a < m) (hb : b < m) : tableR l (fun p => vs (p + i)) m a b = tableR l vs n (a + i) (b + i) := by
  rw [Bool.eq_iff_iff, table_tree h _ m ha hb, table_tree h vs n (by omega) (by omega)]
  exact wayR_cut (ps := psV vs) (ps' := psV fun p => vs (p + i)) hi (fun _ _ _ => Iff.rfl) _ _ a b ha hb
set_option maxHeartbeats 32000000 in
set_option maxRecDepth 100000 in
theorem lawLocal (Z : Option Addr) (nz cz : Nat) (zs : List Int) (V : Option Addr) (nv cv : Nat) (xs : List Nat) (fr tt : Int) (w : World) (hz : Rd .u16 w Z nz zs) (hzm : nz ≤ maxLen) (hv : RdW w V nv xs) (hvm : nv ≤ maxLen) (hf : 0 ≤ fr ∧ fr ≤ 255) (ht : 0 ≤ tt ∧ tt ≤ 255) :
    Calls Try.prog 6 #[.slice Z nz cz, .slice V nv cv, .int .u8 fr, .int .u8 tt] w fun e w' => e = .returned (.bool true) ∧ Below w.heap.size w w' := by
  have HG := Lib.hid (reg_ok false zs (fun z hzz => wf_u16 (hz.all z hzz)))
  have HREG := Lib.hid (lawReg Z nz cz zs false w hz hzm)
  obtain ⟨r, hr⟩ : ∃ r, regMk false zs = r := ⟨_, rfl⟩
  rw [hr] at HG HREG
  obtain ⟨N, hNN⟩ : ∃ N, min nv 9 = N := ⟨_, rfl⟩
  have hN9 : N ≤ 9 := by omega
  obtain ⟨I, hI⟩ : ∃ I : Nat, fr.tmod (((N : Nat) : Int) + 1) = ((I : Nat) : Int) := ⟨(fr.tmod (((N : Nat) : Int) + 1)).toNat, by
    rw [Int.tmod_eq_emod_of_nonneg (by omega)]
    have := Int.emod_nonneg fr (show ((N : Nat) : Int) + 1 ≠ 0 by omega)
    omega⟩
  have hIN : I ≤ N := by
    rw [Int.tmod_eq_emod_of_nonneg (by omega)] at hI
    have := Int.emod_lt_of_pos fr (show 0 < ((N : Nat) : Int) + 1 by omega)
    omega
  obtain ⟨J, hJ⟩ : ∃ J : Nat, tt.tmod (((N : Nat) : Int) - ((I : Nat) : Int) + 1) = ((J : Nat) : Int) := ⟨(tt.tmod (((N : Nat) : Int) - ((I : Nat) : Int) + 1)).toNat, by
    rw [Int.tmod_eq_emod_of_nonneg (by omega)]
    have := Int.emod_nonneg tt (show ((N : Nat) : Int) - ((I : Nat) : Int) + 1 ≠ 0 by omega)
    omega⟩
  have hJN : J ≤ N - I := by
    rw [Int.tmod_eq_emod_of_nonneg (by omega)] at hJ
    have := Int.emod_lt_of_pos tt (show 0 < ((N : Nat) : Int) - ((I : Nat) : Int) + 1 by omega)
    omega
  obtain ⟨k, hk⟩ : ∃ k, I + J = k := ⟨_, rfl⟩
  have hkN : k ≤ N := by omega
  have hsum : ((I : Nat) : Int) + ((J : Nat) : Int) = ((k : Nat) : Int) := by omega
  have hdif : ((k : Nat) : Int) - ((I : Nat) : Int) = ((J : Nat) : Int) := by omega
  have HVV := Lib.hid hv
  have hNi : ((N : Nat) : Int) ≤ 9 := by omega
  have hIi : ((I : Nat) : Int) ≤ ((N : Nat) : Int) := by omega
  have hJi : ((J : Nat) : Int) ≤ 9 := by omega
  have hki : ((k : Nat) : Int) ≤ ((N : Nat) : Int) := by omega
  have hIk : ((I : Nat) : Int) ≤ ((k : Nat) : Int) := by omega
  have hne1 : ¬ (((N : Nat) : Int) + 1 = 0) := by omega
  have hne2 : ¬ (((N : Nat) : Int) - ((I : Nat) : Int) + 1 = 0) := by omega
  clear hz hv hr
  go_enter Try.func6, Try.ntmps6
  go_wp2_with fail
  refine HREG.out.mono ?_
  rintro e w1 ⟨Ar, cr, rfl, hNr, hcr, -, hb1⟩
  have HB1 := Lib.hid hb1
  have HR1 := Lib.hid hNr
  clear hb1 hNr
  go_wp2_with fail
  refine (lawPoints V nv cv xs w1 (HVV.out.below HB1.out) hvm).mono ?_
  rw [hNN]
  rintro e w2 ⟨Av, cN, rfl, hV, hcN, hcm, hb2⟩
  have HB2 := Lib.hid (HB1.out.trans (hb2.mono HB1.out.size))
  have HR2 := Lib.hid (HR1.out.below hb2)
  have HV2 := Lib.hid hV
  clear hb2 hV
  obtain ⟨vs, hvs⟩ : ∃ vs : Nat → List Nat, (fun i => [wd xs i]) = vs := ⟨_, rfl⟩
  rw [hvs] at HV2
  go_wp2_with fail
  refine (landReach Ar Av r.length cr N cN r vs w2 rfl hcr (Nat.le_trans HG.out.2 (by decide)) HR2.out HV2.out (by omega)).mono ?_
  rw [gotR_yes (reg_yes HG.out.1)]
  rintro e w3 ⟨B, R, rfl, hT, hb3⟩
  have HB3 := Lib.hid (HB2.out.trans (hb3.mono HB2.out.size))
  have HR3 := Lib.hid (HR2.out.below hb3)
  have HV3 := Lib.hid (HV2.out.below hb3)
  have HT3 := Lib.hid hT
  clear hb3 hT
  have hsl := fun W => slice_part (P := Try.prog) 30 (by kernel_rfl) 1 (by kernel_rfl) Av N cN I k (by omega) (by omega) W
  have HP3 := Lib.hid (rdV_part HV3.out hcN (show I + J ≤ N by omega))
  obtain ⟨Ap, hAp⟩ : ∃ Ap, Tree.fromAddr Av cN I 1 = Ap := ⟨_, rfl⟩
  rw [hAp] at HP3
  rw [hAp, show k - I = J by omega] at hsl
  go_wp2_with fail
  refine (landReach Ar Ap r.length cr J (cN - I) r (fun p => vs (p + I)) w3 rfl hcr (Nat.le_trans HG.out.2 (by decide)) HR3.out HP3.out (by omega)).mono ?_
  rw [gotR_yes (reg_yes HG.out.1)]
  rintro e w4 ⟨B2, R2, rfl, hT2, hb4⟩
  have HB4 := Lib.hid (HB3.out.trans (hb4.mono HB3.out.size))
  have HT4 := Lib.hid (HT3.out.below hb4)
  have HU4 := Lib.hid hT2
  clear hb4 hT2
  have b3 : N ≤ maxLen := by omega
  have b4 : J ≤ maxLen := by omega
  go_wp2_with fail
  refine (lawSquare (some ⟨B, 0, none⟩) N N N _ w4 (HT4.out.reads b3) rfl (Nat.le_refl _) (by omega)).mono ?_
  rintro e w11 ⟨rfl, rfl⟩
  go_wp2_with fail
  refine (lawSquare (some ⟨B2, 0, none⟩) J J J _ w11 (HU4.out.reads b4) rfl (Nat.le_refl _) (by omega)).mono ?_
  rintro e w12 ⟨rfl, rfl⟩
  go_wp2_with fail
  go_loopw [15, 16, 61] (fun _ _ v wx => ∃ p : Nat, v = .int .i64 (p : Nat) ∧ p ≤ N ∧ Below w12.heap.size w12 wx) (fun _ _ v _ => N - (intOf v).toNat)
  case atStart => exact ⟨0, rfl, Nat.zero_le _, Below.refl _ _⟩
  case round =>
    obtain ⟨p, rfl, hpN, hBo⟩ := hrel
    obtain ⟨wo, hwo⟩ : ∃ wo, wr = wo := ⟨_, rfl⟩
    subst hwo
    have HBO := Lib.hid hBo
    clear hBo
    by_cases hlt2 : p < N
    · have hpi : ((p : Nat) : Int) < ((N : Nat) : Int) := by omega
      go_wp2_with fail
      go_loopw [16, 66] (fun _ v wx => ∃ q : Nat, v = .int .i64 (q : Nat) ∧ q ≤ N ∧ Below w12.heap.size w12 wx) (fun _ v _ => N - (intOf v).toNat)
      case atStart => exact ⟨0, rfl, Nat.zero_le _, HBO.out⟩
      case round =>
        obtain ⟨q, rfl, hqN, hBi⟩ := hrel
        have HBI := Lib.hid hBi
        clear hBi
        by_cases hlt3 : q < N
        · have hqi : ((q : Nat) : Int) < ((N : Nat) : Int) := by omega
          have o1 := (HT4.out.below HBI.out).outer hlt2
          have i1 := (HT4.out.below HBI.out).inner hlt2 hlt3
          have HLE := Lib.hid (fun e => local_le (reg_yes HG.out.1) (vs := vs) hlt2 hlt3 e)
          have HCUT := Lib.hid (fun (h1 : I ≤ p ∧ p < k) (h2 : I ≤ q ∧ q < k) => show wr.cell? ⟨B2, p - I, none⟩ = some (.slice (some ⟨R2 (p - I), 0, none⟩) J J) ∧ wr.cell? ⟨R2 (p - I), q - I, none⟩ = some (.bool (tableR r vs N p q)) from by
            refine ⟨(HU4.out.below HBI.out).outer (by omega), ?_⟩
            have h3 := local_cut (reg_yes HG.out.1) (vs := vs) (n := N) (m := J) (i := I) (a := p - I) (b := q - I) (by omega) (by omega) (by omega)
            rw [Nat.sub_add_cancel h1.1, Nat.sub_add_cancel h2.1] at h3
            rw [← h3]
            exact (HU4.out.below HBI.out).inner (by omega) (by omega))
          obtain ⟨mv, hmv⟩ : ∃ mv, tableR r vs N p q = mv := ⟨_, rfl⟩
          rw [hmv] at i1 HLE HCUT
          clear hmv
          have HBD := Lib.hid (HBI.out.drew)
          have HO := Lib.hid (And.intro o1 i1)
          clear o1 i1
          go_wp2_with fail
          cases mv with
          | true =>
            have hle := HLE.out rfl
            have fan : decide (q < p) = false := decide_eq_false (by omega)
            have fai : decide (((q : Nat) : Int) < ((p : Nat) : Int)) = false := decide_eq_false (by omega)
            by_cases hc1 : I ≤ p
            rotate_left
            · have c1n : decide (I ≤ p) = false := decide_eq_false (by omega)
              have c1i : decide (((I : Nat) : Int) ≤ ((p : Nat) : Int)) = false := decide_eq_false (by omega)
              refine wp_region_held_drew (S := fun W => W.cell? ⟨B, p, none⟩ = some (.slice (some ⟨R p, 0, none⟩) N N) ∧ W.cell? ⟨R p, q, none⟩ = some (.bool true)) (by kernel_rfl) HO.out (fun hHeld => ?_)
              refine wpAnyH_take (i := 0) (oi := ?tko1) (v := ?tkv1) ?tkh1 (by kernel_rfl) (by kernel_rfl) (by kernel_rfl) ?tkq1 ?tky1 hHeld ?tkr1
              case tkh1 => (simp only [List.getElem?_toArray, List.getElem?_cons_zero]; rfl)
              case tkq1 => exact fun _ _ _ h => h
              case tky1 => exact Or.inl ⟨by rfl, by intro wSw hSw; (try dsimp only at hSw); go_simp; try with_reducible rfl⟩
              try simp only [Act.put, List.setIfInBounds_toArray, List.set_cons_zero, List.set_cons_succ]
              refine wpAnyH_take (i := 1) (oi := ?tko2) (v := ?tkv2) ?tkh2 (by kernel_rfl) (by kernel_rfl) (by kernel_rfl) ?tkq2 ?tky2 hHeld ?tkr2
              case tkh2 => (simp only [List.getElem?_toArray, List.getElem?_cons_succ, List.getElem?_cons_zero]; rfl)
              case tkq2 => exact fun _ _ _ h => h
              case tky2 => exact Or.inl ⟨by rfl, by intro wSw hSw; (try dsimp only at hSw); go_simp; try with_reducible rfl⟩
              try simp only [Act.put, List.setIfInBounds_toArray, List.set_cons_zero, List.set_cons_succ]
              refine wpAnyH_take (i := 2) (oi := ?tko3) (v := ?tkv3) ?tkh3 (by kernel_rfl) (by kernel_rfl) (by kernel_rfl) ?tkq3 ?tky3 hHeld ?tkr3
              case tkh3 => (simp only [List.getElem?_toArray, List.getElem?_cons_succ, List.getElem?_cons_zero]; rfl)
              case tkq3 => exact fun _ _ _ h => h
              case tky3 => exact Or.inl ⟨by rfl, by intro wSw hSw; (try dsimp only at hSw); go_simp; try with_reducible rfl⟩
              try simp only [Act.put, List.setIfInBounds_toArray, List.set_cons_zero, List.set_cons_succ]
              refine wpAnyH_take (i := 3) (oi := ?tko4) (v := ?tkv4) ?tkh4 (by kernel_rfl) (by kernel_rfl) (by kernel_rfl) ?tkq4 ?tky4 hHeld ?tkr4
              case tkh4 => (simp only [List.getElem?_toArray, List.getElem?_cons_succ, List.getElem?_cons_zero]; rfl)
              case tkq4 => exact fun _ _ _ h => h
              case tky4 => exact Or.inl ⟨by rfl, by intro wSw hSw; (try dsimp only at hSw); go_simp; try with_reducible rfl⟩
              try simp only [Act.put, List.setIfInBounds_toArray, List.set_cons_zero, List.set_cons_succ]
              refine wpAnyH_take (i := 4) (oi := ?tko5) (v := ?tkv5) ?tkh5 (by kernel_rfl) (by kernel_rfl) (by kernel_rfl) ?tkq5 ?tky5 hHeld ?tkr5
              case tkh5 => (simp only [List.getElem?_toArray, List.getElem?_cons_succ, List.getElem?_cons_zero]; rfl)
              case tkq5 => exact fun _ _ _ h => h
              case tky5 => exact Or.inl ⟨by rfl, by intro wSw hSw; (try dsimp only at hSw); go_simp; try with_reducible rfl⟩
              try simp only [Act.put, List.setIfInBounds_toArray, List.set_cons_zero, List.set_cons_succ]
              refine wpAnyH_take (i := 5) (oi := ?tko6) (v := ?tkv6) ?tkh6 (by kernel_rfl) (by kernel_rfl) (by kernel_rfl) ?tkq6 ?tky6 hHeld ?tkr6
              case tkh6 => (simp only [List.getElem?_toArray, List.getElem?_cons_succ, List.getElem?_cons_zero]; rfl)
              case tkq6 => exact fun _ _ _ h => h
              case tky6 => exact Or.inl ⟨by rfl, by intro wSw hSw; (try dsimp only at hSw); go_simp; try with_reducible rfl⟩
              try simp only [Act.put, List.setIfInBounds_toArray, List.set_cons_zero, List.set_cons_succ]
              refine wpAnyH_take (i := 6) (oi := ?tko7) (v := ?tkv7) ?tkh7 (by kernel_rfl) (by kernel_rfl) (by kernel_rfl) ?tkq7 ?tky7 hHeld ?tkr7
              case tkh7 => (simp only [List.getElem?_toArray, List.getElem?_cons_succ, List.getElem?_cons_zero]; rfl)
              case tkq7 => exact fun _ _ _ h => h
              case tky7 => exact Or.inl ⟨by rfl, by intro wSw hSw; (try dsimp only at hSw); go_simp; try with_reducible rfl⟩
              try simp only [Act.put, List.setIfInBounds_toArray, List.set_cons_zero, List.set_cons_succ]
              refine wpAnyH_take (i := 7) (oi := ?tko8) (v := ?tkv8) ?tkh8 (by kernel_rfl) (by kernel_rfl) (by kernel_rfl) ?tkq8 ?tky8 hHeld ?tkr8
              case tkh8 => (simp only [List.getElem?_toArray, List.getElem?_cons_succ, List.getElem?_cons_zero]; rfl)
              case tkq8 => exact fun _ _ _ h => h
              case tky8 => exact Or.inl ⟨by rfl, by intro wSw hSw; (try dsimp only at hSw); go_simp; try with_reducible rfl⟩
              try simp only [Act.put, List.setIfInBounds_toArray, List.set_cons_zero, List.set_cons_succ]
              refine wpAnyH_take (i := 8) (oi := ?tko9) (v := ?tkv9) ?tkh9 (by kernel_rfl) (by kernel_rfl) (by kernel_rfl) ?tkq9 ?tky9 hHeld ?tkr9
              case tkh9 => (simp only [List.getElem?_toArray, List.getElem?_cons_succ, List.getElem?_cons_zero]; rfl)
              case tkq9 => exact fun _ _ _ h => h
              case tky9 => exact Or.inl ⟨by rfl, by intro wSw hSw; (try dsimp only at hSw); go_simp; try with_reducible rfl⟩
              try simp only [Act.put, List.setIfInBounds_toArray, List.set_cons_zero, List.set_cons_succ]
              refine wpAnyH_take (i := 9) (oi := ?tko10) (v := ?tkv10) ?tkh10 (by kernel_rfl) (by kernel_rfl) (by kernel_rfl) ?tkq10 ?tky10 hHeld ?tkr10
              case tkh10 => (simp only [List.getElem?_toArray, List.getElem?_cons_succ, List.getElem?_cons_zero]; rfl)
              case tkq10 => exact fun _ _ _ h => h
              case tky10 => exact Or.inl ⟨by rfl, by intro wSw hSw; (try dsimp only at hSw); go_simp; try with_reducible rfl⟩
              try simp only [Act.put, List.setIfInBounds_toArray, List.set_cons_zero, List.set_cons_succ]
              refine wpAnyH_take (i := 10) (oi := ?tko11) (v := ?tkv11) ?tkh11 (by kernel_rfl) (by kernel_rfl) (by kernel_rfl) ?tkq11 ?tky11 hHeld ?tkr11
              case tkh11 => (simp only [List.getElem?_toArray, List.getElem?_cons_succ, List.getElem?_cons_zero]; rfl)
              case tkq11 => exact fun _ _ _ h => h
              case tky11 => exact Or.inl ⟨by rfl, by intro wSw hSw; (try dsimp only at hSw); go_simp; try with_reducible rfl⟩
              try simp only [Act.put, List.setIfInBounds_toArray, List.set_cons_zero, List.set_cons_succ]
              refine wpAnyH_take (i := 11) (oi := ?tko12) (v := ?tkv12) ?tkh12 (by kernel_rfl) (by kernel_rfl) (by kernel_rfl) ?tkq12 ?tky12 hHeld ?tkr12
              case tkh12 => (simp only [List.getElem?_toArray, List.getElem?_cons_succ, List.getElem?_cons_zero]; rfl)
              case tkq12 => exact fun _ _ _ h => h
              case tky12 => exact Or.inl ⟨by rfl, by intro wSw hSw; (try dsimp only at hSw); go_simp; try with_reducible rfl⟩
              try simp only [Act.put, List.setIfInBounds_toArray, List.set_cons_zero, List.set_cons_succ]
              refine wpAnyH_take (i := 12) (oi := ?tko13) (v := ?tkv13) ?tkh13 (by kernel_rfl) (by kernel_rfl) (by kernel_rfl) ?tkq13 ?tky13 hHeld ?tkr13
              case tkh13 => (simp only [List.getElem?_toArray, List.getElem?_cons_succ, List.getElem?_cons_zero]; rfl)
              case tkq13 => exact fun _ _ _ h => h
              case tky13 => exact Or.inl ⟨by rfl, by intro wSw hSw; (try dsimp only at hSw); go_simp; try with_reducible rfl⟩
              try simp only [Act.put, List.setIfInBounds_toArray, List.set_cons_zero, List.set_cons_succ]
              refine wpAnyH_take (i := 13) (oi := ?tko14) (v := ?tkv14) ?tkh14 (by kernel_rfl) (by kernel_rfl) (by kernel_rfl) ?tkq14 ?tky14 hHeld ?tkr14
              case tkh14 => (simp only [List.getElem?_toArray, List.getElem?_cons_succ, List.getElem?_cons_zero]; rfl)
              case tkq14 => exact fun _ _ _ h => h
              case tky14 => exact Or.inl ⟨by rfl, by intro wSw hSw; (try dsimp only at hSw); go_simp; try with_reducible rfl⟩
              try simp only [Act.put, List.setIfInBounds_toArray, List.set_cons_zero, List.set_cons_succ]
              refine wpAnyH_take (i := 14) (oi := ?tko15) (v := ?tkv15) ?tkh15 (by kernel_rfl) (by kernel_rfl) (by kernel_rfl) ?tkq15 ?tky15 hHeld ?tkr15
              case tkh15 => (simp only [List.getElem?_toArray, List.getElem?_cons_succ, List.getElem?_cons_zero]; rfl)
              case tkq15 => exact fun _ _ _ h => h
              case tky15 => exact Or.inl ⟨by rfl, by intro wSw hSw; (try dsimp only at hSw); go_simp; try with_reducible rfl⟩
              try simp only [Act.put, List.setIfInBounds_toArray, List.set_cons_zero, List.set_cons_succ]
              refine wpAnyH_take (i := 15) (oi := ?tko16) (v := ?tkv16) ?tkh16 (by kernel_rfl) (by kernel_rfl) (by kernel_rfl) ?tkq16 ?tky16 hHeld ?tkr16
              case tkh16 => (simp only [List.getElem?_toArray, List.getElem?_cons_succ, List.getElem?_cons_zero]; rfl)
              case tkq16 => exact fun _ _ _ h => h
              case tky16 => exact Or.inl ⟨by rfl, by intro wSw hSw; (try dsimp only at hSw); go_simp; try with_reducible rfl⟩
              try simp only [Act.put, List.setIfInBounds_toArray, List.set_cons_zero, List.set_cons_succ]
              refine wpAnyH_take (i := 16) (oi := ?tko17) (v := ?tkv17) ?tkh17 (by kernel_rfl) (by kernel_rfl) (by kernel_rfl) ?tkq17 ?tky17 hHeld ?tkr17
              case tkh17 => (simp only [List.getElem?_toArray, List.getElem?_cons_succ, List.getElem?_cons_zero]; rfl)
              case tkq17 => exact fun _ _ _ h => h
              case tky17 => exact Or.inl ⟨by rfl, by intro wSw hSw; (try dsimp only at hSw); go_simp; try with_reducible rfl⟩
              try simp only [Act.put, List.setIfInBounds_toArray, List.set_cons_zero, List.set_cons_succ]
              refine Skips.skips (by kernel_rfl) (fun _ _ _ _ _ h => h) hHeld [17, 18, 19] _ 33 _ _ (by kernel_rfl) ?tkk18 ?tkr18
              case tkk18 => kernel_rfl
              simp only [Skips.skipAct, Skips.skipListed, List.getElem?_toArray, List.getElem?_cons_succ, List.getElem?_cons_zero, Act.put, List.setIfInBounds_toArray, List.set_cons_zero, List.set_cons_succ]
              refine wpAnyH_take (i := 20) (oi := ?tko19) (v := ?tkv19) ?tkh19 (by kernel_rfl) (by kernel_rfl) (by kernel_rfl) ?tkq19 ?tky19 hHeld ?tkr19
              case tkh19 => (simp only [List.getElem?_toArray, List.getElem?_cons_succ, List.getElem?_cons_zero]; rfl)
              case tkq19 => exact fun _ _ _ h => h
              case tky19 => exact Or.inl ⟨by rfl, by intro wSw hSw; (try dsimp only at hSw); go_simp; try with_reducible rfl⟩
              try simp only [Act.put, List.setIfInBounds_toArray, List.set_cons_zero, List.set_cons_succ]
              refine wpAnyH_take (i := 21) (oi := ?tko20) (v := ?tkv20) ?tkh20 (by kernel_rfl) (by kernel_rfl) (by kernel_rfl) ?tkq20 ?tky20 hHeld ?tkr20
              case tkh20 => (simp only [List.getElem?_toArray, List.getElem?_cons_succ, List.getElem?_cons_zero]; rfl)
              case tkq20 => exact fun _ _ _ h => h
              case tky20 => exact Or.inl ⟨by rfl, by intro wSw hSw; (try dsimp only at hSw); go_simp; try with_reducible rfl⟩
              try simp only [Act.put, List.setIfInBounds_toArray, List.set_cons_zero, List.set_cons_succ]
              refine Skips.skips (by kernel_rfl) (fun _ _ _ _ _ h => h) hHeld [22, 23, 24] _ 28 _ _ (by kernel_rfl) ?tkk21 ?tkr21
              case tkk21 => kernel_rfl
              simp only [Skips.skipAct, Skips.skipListed, List.getElem?_toArray, List.getElem?_cons_succ, List.getElem?_cons_zero, Act.put, List.setIfInBounds_toArray, List.set_cons_zero, List.set_cons_succ]
              refine wpAnyH_take (i := 25) (oi := ?tko22) (v := ?tkv22) ?tkh22 (by kernel_rfl) (by kernel_rfl) (by kernel_rfl) ?tkq22 ?tky22 hHeld ?tkr22
              case tkh22 => (simp only [List.getElem?_toArray, List.getElem?_cons_succ, List.getElem?_cons_zero]; rfl)
              case tkq22 => exact fun _ _ _ h => h
              case tky22 => exact Or.inl ⟨by rfl, by intro wSw hSw; (try dsimp only at hSw); go_simp; try with_reducible rfl⟩
              try simp only [Act.put, List.setIfInBounds_toArray, List.set_cons_zero, List.set_cons_succ]
              refine wpAnyH_take (i := 26) (oi := ?tko23) (v := ?tkv23) ?tkh23 (by kernel_rfl) (by kernel_rfl) (by kernel_rfl) ?tkq23 ?tky23 hHeld ?tkr23
              case tkh23 => (simp only [List.getElem?_toArray, List.getElem?_cons_succ, List.getElem?_cons_zero]; rfl)
              case tkq23 => exact fun _ _ _ h => h
              case tky23 => exact Or.inl ⟨by rfl, by intro wSw hSw; (try dsimp only at hSw); go_simp; try with_reducible rfl⟩
              try simp only [Act.put, List.setIfInBounds_toArray, List.set_cons_zero, List.set_cons_succ]
              refine Skips.skips (by kernel_rfl) (fun _ _ _ _ _ h => h) hHeld [27, 28, 29] _ 23 _ _ (by kernel_rfl) ?tkk24 ?tkr24
              case tkk24 => kernel_rfl
              simp only [Skips.skipAct, Skips.skipListed, List.getElem?_toArray, List.getElem?_cons_succ, List.getElem?_cons_zero, Act.put, List.setIfInBounds_toArray, List.set_cons_zero, List.set_cons_succ]
              refine wpAnyH_take (i := 30) (oi := ?tko25) (v := ?tkv25) ?tkh25 (by kernel_rfl) (by kernel_rfl) (by kernel_rfl) ?tkq25 ?tky25 hHeld ?tkr25
              case tkh25 => (simp only [List.getElem?_toArray, List.getElem?_cons_succ, List.getElem?_cons_zero]; rfl)
              case tkq25 => exact fun _ _ _ h => h
              case tky25 => exact Or.inl ⟨by rfl, by intro wSw hSw; (try dsimp only at hSw); go_simp; try with_reducible rfl⟩
              try simp only [Act.put, List.setIfInBounds_toArray, List.set_cons_zero, List.set_cons_succ]
              refine wpAnyH_take (i := 31) (oi := ?tko26) (v := ?tkv26) ?tkh26 (by kernel_rfl) (by kernel_rfl) (by kernel_rfl) ?tkq26 ?tky26 hHeld ?tkr26
              case tkh26 => (simp only [List.getElem?_toArray, List.getElem?_cons_succ, List.getElem?_cons_zero]; rfl)
              case tkq26 => exact fun _ _ _ h => h
              case tky26 => exact Or.inl ⟨by rfl, by intro wSw hSw; (try dsimp only at hSw); go_simp; try with_reducible rfl⟩
              try simp only [Act.put, List.setIfInBounds_toArray, List.set_cons_zero, List.set_cons_succ]
              refine Skips.skips (by kernel_rfl) (fun _ _ _ _ _ h => h) hHeld [32, 33, 34, 35, 36, 37, 38, 39, 40, 41, 42, 43, 44, 45, 46, 47, 48, 49, 50] _ 2 _ _ (by kernel_rfl) ?tkk27 ?tkr27
              case tkk27 => kernel_rfl
              simp only [Skips.skipAct, Skips.skipListed, List.getElem?_toArray, List.getElem?_cons_succ, List.getElem?_cons_zero, Act.put, List.setIfInBounds_toArray, List.set_cons_zero, List.set_cons_succ]
              refine wpAnyH_take (i := 51) (oi := ?tko28) (v := ?tkv28) ?tkh28 (by kernel_rfl) (by kernel_rfl) (by kernel_rfl) ?tkq28 ?tky28 hHeld ?tkr28
              case tkh28 => (simp only [List.getElem?_toArray, List.getElem?_cons_succ, List.getElem?_cons_zero]; rfl)
              case tkq28 => exact fun _ _ _ h => h
              case tky28 => exact Or.inl ⟨by rfl, by intro wSw hSw; (try dsimp only at hSw); go_simp; try with_reducible rfl⟩
              try simp only [Act.put, List.setIfInBounds_toArray, List.set_cons_zero, List.set_cons_succ]
              refine wpAnyH_take (i := 52) (oi := ?tko29) (v := ?tkv29) ?tkh29 (by kernel_rfl) (by kernel_rfl) (by kernel_rfl) ?tkq29 ?tky29 hHeld ?tkr29
              case tkh29 => (simp only [List.getElem?_toArray, List.getElem?_cons_succ, List.getElem?_cons_zero]; rfl)
              case tkq29 => exact fun _ _ _ h => h
              case tky29 => exact Or.inl ⟨by rfl, by intro wSw hSw; (try dsimp only at hSw); go_simp; try with_reducible rfl⟩
              try simp only [Act.put, List.setIfInBounds_toArray, List.set_cons_zero, List.set_cons_succ]
              refine wpAnyH_done (by kernel_rfl) ?_ _
              clear hHeld
              go_wp2_with fail
              go_roundw
              case rel => exact ⟨q + 1, by simp, by omega, HBD.out⟩
              case measure => (show N - (q + 1) < N - q; omega)
            have c1n : decide (I ≤ p) = true := decide_eq_true (by omega)
            have c1i : decide (((I : Nat) : Int) ≤ ((p : Nat) : Int)) = true := decide_eq_true (by omega)
            by_cases hc2 : p < k
            rotate_left
            · have c2n : decide (p < k) = false := decide_eq_false (by omega)
              have c2i : decide (((p : Nat) : Int) < ((k : Nat) : Int)) = false := decide_eq_false (by omega)
              refine wp_region_held_drew (S := fun W => W.cell? ⟨B, p, none⟩ = some (.slice (some ⟨R p, 0, none⟩) N N) ∧ W.cell? ⟨R p, q, none⟩ = some (.bool true)) (by kernel_rfl) HO.out (fun hHeld => ?_)
              refine wpAnyH_take (i := 0) (oi := ?tko30) (v := ?tkv30) ?tkh30 (by kernel_rfl) (by kernel_rfl) (by kernel_rfl) ?tkq30 ?tky30 hHeld ?tkr30
              case tkh30 => (simp only [List.getElem?_toArray, List.getElem?_cons_zero]; rfl)
              case tkq30 => exact fun _ _ _ h => h
              case tky30 => exact Or.inl ⟨by rfl, by intro wSw hSw; (try dsimp only at hSw); go_simp; try with_reducible rfl⟩
              try simp only [Act.put, List.setIfInBounds_toArray, List.set_cons_zero, List.set_cons_succ]
              refine wpAnyH_take (i := 1) (oi := ?tko31) (v := ?tkv31) ?tkh31 (by kernel_rfl) (by kernel_rfl) (by kernel_rfl) ?tkq31 ?tky31 hHeld ?tkr31
              case tkh31 => (simp only [List.getElem?_toArray, List.getElem?_cons_succ, List.getElem?_cons_zero]; rfl)
              case tkq31 => exact fun _ _ _ h => h
              case tky31 => exact Or.inl ⟨by rfl, by intro wSw hSw; (try dsimp only at hSw); go_simp; try with_reducible rfl⟩
              try simp only [Act.put, List.setIfInBounds_toArray, List.set_cons_zero, List.set_cons_succ]
              refine wpAnyH_take (i := 2) (oi := ?tko32) (v := ?tkv32) ?tkh32 (by kernel_rfl) (by kernel_rfl) (by kernel_rfl) ?tkq32 ?tky32 hHeld ?tkr32
              case tkh32 => (simp only [List.getElem?_toArray, List.getElem?_cons_succ, List.getElem?_cons_zero]; rfl)
              case tkq32 => exact fun _ _ _ h => h
              case tky32 => exact Or.inl ⟨by rfl, by intro wSw hSw; (try dsimp only at hSw); go_simp; try with_reducible rfl⟩
              try simp only [Act.put, List.setIfInBounds_toArray, List.set_cons_zero, List.set_cons_succ]
              refine wpAnyH_take (i := 3) (oi := ?tko33) (v := ?tkv33) ?tkh33 (by kernel_rfl) (by kernel_rfl) (by kernel_rfl) ?tkq33 ?tky33 hHeld ?tkr33
              case tkh33 => (simp only [List.getElem?_toArray, List.getElem?_cons_succ, List.getElem?_cons_zero]; rfl)
              case tkq33 => exact fun _ _ _ h => h
              case tky33 => exact Or.inl ⟨by rfl, by intro wSw hSw; (try dsimp only at hSw); go_simp; try with_reducible rfl⟩
              try simp only [Act.put, List.setIfInBounds_toArray, List.set_cons_zero, List.set_cons_succ]
              refine wpAnyH_take (i := 4) (oi := ?tko34) (v := ?tkv34) ?tkh34 (by kernel_rfl) (by kernel_rfl) (by kernel_rfl) ?tkq34 ?tky34 hHeld ?tkr34
              case tkh34 => (simp only [List.getElem?_toArray, List.getElem?_cons_succ, List.getElem?_cons_zero]; rfl)
              case tkq34 => exact fun _ _ _ h => h
              case tky34 => exact Or.inl ⟨by rfl, by intro wSw hSw; (try dsimp only at hSw); go_simp; try with_reducible rfl⟩
              try simp only [Act.put, List.setIfInBounds_toArray, List.set_cons_zero, List.set_cons_succ]
              refine wpAnyH_take (i := 5) (oi := ?tko35) (v := ?tkv35) ?tkh35 (by kernel_rfl) (by kernel_rfl) (by kernel_rfl) ?tkq35 ?tky35 hHeld ?tkr35
              case tkh35 => (simp only [List.getElem?_toArray, List.getElem?_cons_succ, List.getElem?_cons_zero]; rfl)
              case tkq35 => exact fun _ _ _ h => h
              case tky35 => exact Or.inl ⟨by rfl, by intro wSw hSw; (try dsimp only at hSw); go_simp; try with_reducible rfl⟩
              try simp only [Act.put, List.setIfInBounds_toArray, List.set_cons_zero, List.set_cons_succ]
              refine wpAnyH_take (i := 6) (oi := ?tko36) (v := ?tkv36) ?tkh36 (by kernel_rfl) (by kernel_rfl) (by kernel_rfl) ?tkq36 ?tky36 hHeld ?tkr36
              case tkh36 => (simp only [List.getElem?_toArray, List.getElem?_cons_succ, List.getElem?_cons_zero]; rfl)
              case tkq36 => exact fun _ _ _ h => h
              case tky36 => exact Or.inl ⟨by rfl, by intro wSw hSw; (try dsimp only at hSw); go_simp; try with_reducible rfl⟩
              try simp only [Act.put, List.setIfInBounds_toArray, List.set_cons_zero, List.set_cons_succ]
              refine wpAnyH_take (i := 7) (oi := ?tko37) (v := ?tkv37) ?tkh37 (by kernel_rfl) (by kernel_rfl) (by kernel_rfl) ?tkq37 ?tky37 hHeld ?tkr37
              case tkh37 => (simp only [List.getElem?_toArray, List.getElem?_cons_succ, List.getElem?_cons_zero]; rfl)
              case tkq37 => exact fun _ _ _ h => h
              case tky37 => exact Or.inl ⟨by rfl, by intro wSw hSw; (try dsimp only at hSw); go_simp; try with_reducible rfl⟩
              try simp only [Act.put, List.setIfInBounds_toArray, List.set_cons_zero, List.set_cons_succ]
              refine wpAnyH_take (i := 8) (oi := ?tko38) (v := ?tkv38) ?tkh38 (by kernel_rfl) (by kernel_rfl) (by kernel_rfl) ?tkq38 ?tky38 hHeld ?tkr38
              case tkh38 => (simp only [List.getElem?_toArray, List.getElem?_cons_succ, List.getElem?_cons_zero]; rfl)
              case tkq38 => exact fun _ _ _ h => h
              case tky38 => exact Or.inl ⟨by rfl, by intro wSw hSw; (try dsimp only at hSw); go_simp; try with_reducible rfl⟩
              try simp only [Act.put, List.setIfInBounds_toArray, List.set_cons_zero, List.set_cons_succ]
              refine wpAnyH_take (i := 9) (oi := ?tko39) (v := ?tkv39) ?tkh39 (by kernel_rfl) (by kernel_rfl) (by kernel_rfl) ?tkq39 ?tky39 hHeld ?tkr39
              case tkh39 => (simp only [List.getElem?_toArray, List.getElem?_cons_succ, List.getElem?_cons_zero]; rfl)
              case tkq39 => exact fun _ _ _ h => h
              case tky39 => exact Or.inl ⟨by rfl, by intro wSw hSw; (try dsimp only at hSw); go_simp; try with_reducible rfl⟩
              try simp only [Act.put, List.setIfInBounds_toArray, List.set_cons_zero, List.set_cons_succ]
              refine wpAnyH_take (i := 10) (oi := ?tko40) (v := ?tkv40) ?tkh40 (by kernel_rfl) (by kernel_rfl) (by kernel_rfl) ?tkq40 ?tky40 hHeld ?tkr40
              case tkh40 => (simp only [List.getElem?_toArray, List.getElem?_cons_succ, List.getElem?_cons_zero]; rfl)
              case tkq40 => exact fun _ _ _ h => h
              case tky40 => exact Or.inl ⟨by rfl, by intro wSw hSw; (try dsimp only at hSw); go_simp; try with_reducible rfl⟩
              try simp only [Act.put, List.setIfInBounds_toArray, List.set_cons_zero, List.set_cons_succ]
              refine wpAnyH_take (i := 11) (oi := ?tko41) (v := ?tkv41) ?tkh41 (by kernel_rfl) (by kernel_rfl) (by kernel_rfl) ?tkq41 ?tky41 hHeld ?tkr41
              case tkh41 => (simp only [List.getElem?_toArray, List.getElem?_cons_succ, List.getElem?_cons_zero]; rfl)
              case tkq41 => exact fun _ _ _ h => h
              case tky41 => exact Or.inl ⟨by rfl, by intro wSw hSw; (try dsimp only at hSw); go_simp; try with_reducible rfl⟩
              try simp only [Act.put, List.setIfInBounds_toArray, List.set_cons_zero, List.set_cons_succ]
              refine wpAnyH_take (i := 12) (oi := ?tko42) (v := ?tkv42) ?tkh42 (by kernel_rfl) (by kernel_rfl) (by kernel_rfl) ?tkq42 ?tky42 hHeld ?tkr42
              case tkh42 => (simp only [List.getElem?_toArray, List.getElem?_cons_succ, List.getElem?_cons_zero]; rfl)
              case tkq42 => exact fun _ _ _ h => h
              case tky42 => exact Or.inl ⟨by rfl, by intro wSw hSw; (try dsimp only at hSw); go_simp; try with_reducible rfl⟩
              try simp only [Act.put, List.setIfInBounds_toArray, List.set_cons_zero, List.set_cons_succ]
              refine wpAnyH_take (i := 13) (oi := ?tko43) (v := ?tkv43) ?tkh43 (by kernel_rfl) (by kernel_rfl) (by kernel_rfl) ?tkq43 ?tky43 hHeld ?tkr43
              case tkh43 => (simp only [List.getElem?_toArray, List.getElem?_cons_succ, List.getElem?_cons_zero]; rfl)
              case tkq43 => exact fun _ _ _ h => h
              case tky43 => exact Or.inl ⟨by rfl, by intro wSw hSw; (try dsimp only at hSw); go_simp; try with_reducible rfl⟩
              try simp only [Act.put, List.setIfInBounds_toArray, List.set_cons_zero, List.set_cons_succ]
              refine wpAnyH_take (i := 14) (oi := ?tko44) (v := ?tkv44) ?tkh44 (by kernel_rfl) (by kernel_rfl) (by kernel_rfl) ?tkq44 ?tky44 hHeld ?tkr44
              case tkh44 => (simp only [List.getElem?_toArray, List.getElem?_cons_succ, List.getElem?_cons_zero]; rfl)
              case tkq44 => exact fun _ _ _ h => h
              case tky44 => exact Or.inl ⟨by rfl, by intro wSw hSw; (try dsimp only at hSw); go_simp; try with_reducible rfl⟩
              try simp only [Act.put, List.setIfInBounds_toArray, List.set_cons_zero, List.set_cons_succ]
              refine wpAnyH_take (i := 15) (oi := ?tko45) (v := ?tkv45) ?tkh45 (by kernel_rfl) (by kernel_rfl) (by kernel_rfl) ?tkq45 ?tky45 hHeld ?tkr45
              case tkh45 => (simp only [List.getElem?_toArray, List.getElem?_cons_succ, List.getElem?_cons_zero]; rfl)
              case tkq45 => exact fun _ _ _ h => h
              case tky45 => exact Or.inl ⟨by rfl, by intro wSw hSw; (try dsimp only at hSw); go_simp; try with_reducible rfl⟩
              try simp only [Act.put, List.setIfInBounds_toArray, List.set_cons_zero, List.set_cons_succ]
              refine wpAnyH_take (i := 16) (oi := ?tko46) (v := ?tkv46) ?tkh46 (by kernel_rfl) (by kernel_rfl) (by kernel_rfl) ?tkq46 ?tky46 hHeld ?tkr46
              case tkh46 => (simp only [List.getElem?_toArray, List.getElem?_cons_succ, List.getElem?_cons_zero]; rfl)
              case tkq46 => exact fun _ _ _ h => h
              case tky46 => exact Or.inl ⟨by rfl, by intro wSw hSw; (try dsimp only at hSw); go_simp; try with_reducible rfl⟩
              try simp only [Act.put, List.setIfInBounds_toArray, List.set_cons_zero, List.set_cons_succ]
              refine wpAnyH_take (i := 17) (oi := ?tko47) (v := ?tkv47) ?tkh47 (by kernel_rfl) (by kernel_rfl) (by kernel_rfl) ?tkq47 ?tky47 hHeld ?tkr47
              case tkh47 => (simp only [List.getElem?_toArray, List.getElem?_cons_succ, List.getElem?_cons_zero]; rfl)
              case tkq47 => exact fun _ _ _ h => h
              case tky47 => exact Or.inl ⟨by rfl, by intro wSw hSw; (try dsimp only at hSw); go_simp; try with_reducible rfl⟩
              try simp only [Act.put, List.setIfInBounds_toArray, List.set_cons_zero, List.set_cons_succ]
              refine wpAnyH_take (i := 18) (oi := ?tko48) (v := ?tkv48) ?tkh48 (by kernel_rfl) (by kernel_rfl) (by kernel_rfl) ?tkq48 ?tky48 hHeld ?tkr48
              case tkh48 => (simp only [List.getElem?_toArray, List.getElem?_cons_succ, List.getElem?_cons_zero]; rfl)
              case tkq48 => exact fun _ _ _ h => h
              case tky48 => exact Or.inl ⟨by rfl, by intro wSw hSw; (try dsimp only at hSw); go_simp; try with_reducible rfl⟩
              try simp only [Act.put, List.setIfInBounds_toArray, List.set_cons_zero, List.set_cons_succ]
              refine wpAnyH_take (i := 19) (oi := ?tko49) (v := ?tkv49) ?tkh49 (by kernel_rfl) (by kernel_rfl) (by kernel_rfl) ?tkq49 ?tky49 hHeld ?tkr49
              case tkh49 => (simp only [List.getElem?_toArray, List.getElem?_cons_succ, List.getElem?_cons_zero]; rfl)
              case tkq49 => exact fun _ _ _ h => h
              case tky49 => exact Or.inl ⟨by rfl, by intro wSw hSw; (try dsimp only at hSw); go_simp; try with_reducible rfl⟩
              try simp only [Act.put, List.setIfInBounds_toArray, List.set_cons_zero, List.set_cons_succ]
              refine wpAnyH_take (i := 20) (oi := ?tko50) (v := ?tkv50) ?tkh50 (by kernel_rfl) (by kernel_rfl) (by kernel_rfl) ?tkq50 ?tky50 hHeld ?tkr50
              case tkh50 => (simp only [List.getElem?_toArray, List.getElem?_cons_succ, List.getElem?_cons_zero]; rfl)
              case tkq50 => exact fun _ _ _ h => h
              case tky50 => exact Or.inl ⟨by rfl, by intro wSw hSw; (try dsimp only at hSw); go_simp; try with_reducible rfl⟩
              try simp only [Act.put, List.setIfInBounds_toArray, List.set_cons_zero, List.set_cons_succ]
              refine wpAnyH_take (i := 21) (oi := ?tko51) (v := ?tkv51) ?tkh51 (by kernel_rfl) (by kernel_rfl) (by kernel_rfl) ?tkq51 ?tky51 hHeld ?tkr51
              case tkh51 => (simp only [List.getElem?_toArray, List.getElem?_cons_succ, List.getElem?_cons_zero]; rfl)
              case tkq51 => exact fun _ _ _ h => h
              case tky51 => exact Or.inl ⟨by rfl, by intro wSw hSw; (try dsimp only at hSw); go_simp; try with_reducible rfl⟩
              try simp only [Act.put, List.setIfInBounds_toArray, List.set_cons_zero, List.set_cons_succ]
              refine Skips.skips (by kernel_rfl) (fun _ _ _ _ _ h => h) hHeld [22, 23, 24] _ 28 _ _ (by kernel_rfl) ?tkk52 ?tkr52
              case tkk52 => kernel_rfl
              simp only [Skips.skipAct, Skips.skipListed, List.getElem?_toArray, List.getElem?_cons_succ, List.getElem?_cons_zero, Act.put, List.setIfInBounds_toArray, List.set_cons_zero, List.set_cons_succ]
              refine wpAnyH_take (i := 25) (oi := ?tko53) (v := ?tkv53) ?tkh53 (by kernel_rfl) (by kernel_rfl) (by kernel_rfl) ?tkq53 ?tky53 hHeld ?tkr53
              case tkh53 => (simp only [List.getElem?_toArray, List.getElem?_cons_succ, List.getElem?_cons_zero]; rfl)
              case tkq53 => exact fun _ _ _ h => h
              case tky53 => exact Or.inl ⟨by rfl, by intro wSw hSw; (try dsimp only at hSw); go_simp; try with_reducible rfl⟩
              try simp only [Act.put, List.setIfInBounds_toArray, List.set_cons_zero, List.set_cons_succ]
              refine wpAnyH_take (i := 26) (oi := ?tko54) (v := ?tkv54) ?tkh54 (by kernel_rfl) (by kernel_rfl) (by kernel_rfl) ?tkq54 ?tky54 hHeld ?tkr54
              case tkh54 => (simp only [List.getElem?_toArray, List.getElem?_cons_succ, List.getElem?_cons_zero]; rfl)
              case tkq54 => exact fun _ _ _ h => h
              case tky54 => exact Or.inl ⟨by rfl, by intro wSw hSw; (try dsimp only at hSw); go_simp; try with_reducible rfl⟩
              try simp only [Act.put, List.setIfInBounds_toArray, List.set_cons_zero, List.set_cons_succ]
              refine Skips.skips (by kernel_rfl) (fun _ _ _ _ _ h => h) hHeld [27, 28, 29] _ 23 _ _ (by kernel_rfl) ?tkk55 ?tkr55
              case tkk55 => kernel_rfl
              simp only [Skips.skipAct, Skips.skipListed, List.getElem?_toArray, List.getElem?_cons_succ, List.getElem?_cons_zero, Act.put, List.setIfInBounds_toArray, List.set_cons_zero, List.set_cons_succ]
              refine wpAnyH_take (i := 30) (oi := ?tko56) (v := ?tkv56) ?tkh56 (by kernel_rfl) (by kernel_rfl) (by kernel_rfl) ?tkq56 ?tky56 hHeld ?tkr56
              case tkh56 => (simp only [List.getElem?_toArray, List.getElem?_cons_succ, List.getElem?_cons_zero]; rfl)
              case tkq56 => exact fun _ _ _ h => h
              case tky56 => exact Or.inl ⟨by rfl, by intro wSw hSw; (try dsimp only at hSw); go_simp; try with_reducible rfl⟩
              try simp only [Act.put, List.setIfInBounds_toArray, List.set_cons_zero, List.set_cons_succ]
              refine wpAnyH_take (i := 31) (oi := ?tko57) (v := ?tkv57) ?tkh57 (by kernel_rfl) (by kernel_rfl) (by kernel_rfl) ?tkq57 ?tky57 hHeld ?tkr57
              case tkh57 => (simp only [List.getElem?_toArray, List.getElem?_cons_succ, List.getElem?_cons_zero]; rfl)
              case tkq57 => exact fun _ _ _ h => h
              case tky57 => exact Or.inl ⟨by rfl, by intro wSw hSw; (try dsimp only at hSw); go_simp; try with_reducible rfl⟩
              try simp only [Act.put, List.setIfInBounds_toArray, List.set_cons_zero, List.set_cons_succ]
              refine Skips.skips (by kernel_rfl) (fun _ _ _ _ _ h => h) hHeld [32, 33, 34, 35, 36, 37, 38, 39, 40, 41, 42, 43, 44, 45, 46, 47, 48, 49, 50] _ 2 _ _ (by kernel_rfl) ?tkk58 ?tkr58
              case tkk58 => kernel_rfl
              simp only [Skips.skipAct, Skips.skipListed, List.getElem?_toArray, List.getElem?_cons_succ, List.getElem?_cons_zero, Act.put, List.setIfInBounds_toArray, List.set_cons_zero, List.set_cons_succ]
              refine wpAnyH_take (i := 51) (oi := ?tko59) (v := ?tkv59) ?tkh59 (by kernel_rfl) (by kernel_rfl) (by kernel_rfl) ?tkq59 ?tky59 hHeld ?tkr59
              case tkh59 => (simp only [List.getElem?_toArray, List.getElem?_cons_succ, List.getElem?_cons_zero]; rfl)
              case tkq59 => exact fun _ _ _ h => h
              case tky59 => exact Or.inl ⟨by rfl, by intro wSw hSw; (try dsimp only at hSw); go_simp; try with_reducible rfl⟩
              try simp only [Act.put, List.setIfInBounds_toArray, List.set_cons_zero, List.set_cons_succ]
              refine wpAnyH_take (i := 52) (oi := ?tko60) (v := ?tkv60) ?tkh60 (by kernel_rfl) (by kernel_rfl) (by kernel_rfl) ?tkq60 ?tky60 hHeld ?tkr60
              case tkh60 => (simp only [List.getElem?_toArray, List.getElem?_cons_succ, List.getElem?_cons_zero]; rfl)
              case tkq60 => exact fun _ _ _ h => h
              case tky60 => exact Or.inl ⟨by rfl, by intro wSw hSw; (try dsimp only at hSw); go_simp; try with_reducible rfl⟩
              try simp only [Act.put, List.setIfInBounds_toArray, List.set_cons_zero, List.set_cons_succ]
              refine wpAnyH_done (by kernel_rfl) ?_ _
              clear hHeld
              go_wp2_with fail
              go_roundw
              case rel => exact ⟨q + 1, by simp, by omega, HBD.out⟩
              case measure => (show N - (q + 1) < N - q; omega)
            have c2n : decide (p < k) = true := decide_eq_true (by omega)
            have c2i : decide (((p : Nat) : Int) < ((k : Nat) : Int)) = true := decide_eq_true (by omega)
            by_cases hc3 : I ≤ q
            rotate_left
            · have c3n : decide (I ≤ q) = false := decide_eq_false (by omega)
              have c3i : decide (((I : Nat) : Int) ≤ ((q : Nat) : Int)) = false := decide_eq_false (by omega)
              refine wp_region_held_drew (S := fun W => W.cell? ⟨B, p, none⟩ = some (.slice (some ⟨R p, 0, none⟩) N N) ∧ W.cell? ⟨R p, q, none⟩ = some (.bool true)) (by kernel_rfl) HO.out (fun hHeld => ?_)
              refine wpAnyH_take (i := 0) (oi := ?tko61) (v := ?tkv61) ?tkh61 (by kernel_rfl) (by kernel_rfl) (by kernel_rfl) ?tkq61 ?tky61 hHeld ?tkr61
              case tkh61 => (simp only [List.getElem?_toArray, List.getElem?_cons_zero]; rfl)
              case tkq61 => exact fun _ _ _ h => h
              case tky61 => exact Or.inl ⟨by rfl, by intro wSw hSw; (try dsimp only at hSw); go_simp; try with_reducible rfl⟩
              try simp only [Act.put, List.setIfInBounds_toArray, List.set_cons_zero, List.set_cons_succ]
              refine wpAnyH_take (i := 1) (oi := ?tko62) (v := ?tkv62) ?tkh62 (by kernel_rfl) (by kernel_rfl) (by kernel_rfl) ?tkq62 ?tky62 hHeld ?tkr62
              case tkh62 => (simp only [List.getElem?_toArray, List.getElem?_cons_succ, List.getElem?_cons_zero]; rfl)
              case tkq62 => exact fun _ _ _ h => h
              case tky62 => exact Or.inl ⟨by rfl, by intro wSw hSw; (try dsimp only at hSw); go_simp; try with_reducible rfl⟩
              try simp only [Act.put, List.setIfInBounds_toArray, List.set_cons_zero, List.set_cons_succ]
              refine wpAnyH_take (i := 2) (oi := ?tko63) (v := ?tkv63) ?tkh63 (by kernel_rfl) (by kernel_rfl) (by kernel_rfl) ?tkq63 ?tky63 hHeld ?tkr63
              case tkh63 => (simp only [List.getElem?_toArray, List.getElem?_cons_succ, List.getElem?_cons_zero]; rfl)
              case tkq63 => exact fun _ _ _ h => h
              case tky63 => exact Or.inl ⟨by rfl, by intro wSw hSw; (try dsimp only at hSw); go_simp; try with_reducible rfl⟩
              try simp only [Act.put, List.setIfInBounds_toArray, List.set_cons_zero, List.set_cons_succ]
              refine wpAnyH_take (i := 3) (oi := ?tko64) (v := ?tkv64) ?tkh64 (by kernel_rfl) (by kernel_rfl) (by kernel_rfl) ?tkq64 ?tky64 hHeld ?tkr64
              case tkh64 => (simp only [List.getElem?_toArray, List.getElem?_cons_succ, List.getElem?_cons_zero]; rfl)
              case tkq64 => exact fun _ _ _ h => h
              case tky64 => exact Or.inl ⟨by rfl, by intro wSw hSw; (try dsimp only at hSw); go_simp; try with_reducible rfl⟩
              try simp only [Act.put, List.setIfInBounds_toArray, List.set_cons_zero, List.set_cons_succ]
              refine wpAnyH_take (i := 4) (oi := ?tko65) (v := ?tkv65) ?tkh65 (by kernel_rfl) (by kernel_rfl) (by kernel_rfl) ?tkq65 ?tky65 hHeld ?tkr65
              case tkh65 => (simp only [List.getElem?_toArray, List.getElem?_cons_succ, List.getElem?_cons_zero]; rfl)
              case tkq65 => exact fun _ _ _ h => h
              case tky65 => exact Or.inl ⟨by rfl, by intro wSw hSw; (try dsimp only at hSw); go_simp; try with_reducible rfl⟩
              try simp only [Act.put, List.setIfInBounds_toArray, List.set_cons_zero, List.set_cons_succ]
              refine wpAnyH_take (i := 5) (oi := ?tko66) (v := ?tkv66) ?tkh66 (by kernel_rfl) (by kernel_rfl) (by kernel_rfl) ?tkq66 ?tky66 hHeld ?tkr66
              case tkh66 => (simp only [List.getElem?_toArray, List.getElem?_cons_succ, List.getElem?_cons_zero]; rfl)
              case tkq66 => exact fun _ _ _ h => h
              case tky66 => exact Or.inl ⟨by rfl, by intro wSw hSw; (try dsimp only at hSw); go_simp; try with_reducible rfl⟩
              try simp only [Act.put, List.setIfInBounds_toArray, List.set_cons_zero, List.set_cons_succ]
              refine wpAnyH_take (i := 6) (oi := ?tko67) (v := ?tkv67) ?tkh67 (by kernel_rfl) (by kernel_rfl) (by kernel_rfl) ?tkq67 ?tky67 hHeld ?tkr67
              case tkh67 => (simp only [List.getElem?_toArray, List.getElem?_cons_succ, List.getElem?_cons_zero]; rfl)
              case tkq67 => exact fun _ _ _ h => h
              case tky67 => exact Or.inl ⟨by rfl, by intro wSw hSw; (try dsimp only at hSw); go_simp; try with_reducible rfl⟩
              try simp only [Act.put, List.setIfInBounds_toArray, List.set_cons_zero, List.set_cons_succ]
              refine wpAnyH_take (i := 7) (oi := ?tko68) (v := ?tkv68) ?tkh68 (by kernel_rfl) (by kernel_rfl) (by kernel_rfl) ?tkq68 ?tky68 hHeld ?tkr68
              case tkh68 => (simp only [List.getElem?_toArray, List.getElem?_cons_succ, List.getElem?_cons_zero]; rfl)
              case tkq68 => exact fun _ _ _ h => h
              case tky68 => exact Or.inl ⟨by rfl, by intro wSw hSw; (try dsimp only at hSw); go_simp; try with_reducible rfl⟩
              try simp only [Act.put, List.setIfInBounds_toArray, List.set_cons_zero, List.set_cons_succ]
              refine wpAnyH_take (i := 8) (oi := ?tko69) (v := ?tkv69) ?tkh69 (by kernel_rfl) (by kernel_rfl) (by kernel_rfl) ?tkq69 ?tky69 hHeld ?tkr69
              case tkh69 => (simp only [List.getElem?_toArray, List.getElem?_cons_succ, List.getElem?_cons_zero]; rfl)
              case tkq69 => exact fun _ _ _ h => h
              case tky69 => exact Or.inl ⟨by rfl, by intro wSw hSw; (try dsimp only at hSw); go_simp; try with_reducible rfl⟩
              try simp only [Act.put, List.setIfInBounds_toArray, List.set_cons_zero, List.set_cons_succ]
              refine wpAnyH_take (i := 9) (oi := ?tko70) (v := ?tkv70) ?tkh70 (by kernel_rfl) (by kernel_rfl) (by kernel_rfl) ?tkq70 ?tky70 hHeld ?tkr70
              case tkh70 => (simp only [List.getElem?_toArray, List.getElem?_cons_succ, List.getElem?_cons_zero]; rfl)
              case tkq70 => exact fun _ _ _ h => h
              case tky70 => exact Or.inl ⟨by rfl, by intro wSw hSw; (try dsimp only at hSw); go_simp; try with_reducible rfl⟩
              try simp only [Act.put, List.setIfInBounds_toArray, List.set_cons_zero, List.set_cons_succ]
              refine wpAnyH_take (i := 10) (oi := ?tko71) (v := ?tkv71) ?tkh71 (by kernel_rfl) (by kernel_rfl) (by kernel_rfl) ?tkq71 ?tky71 hHeld ?tkr71
              case tkh71 => (simp only [List.getElem?_toArray, List.getElem?_cons_succ, List.getElem?_cons_zero]; rfl)
              case tkq71 => exact fun _ _ _ h => h
              case tky71 => exact Or.inl ⟨by rfl, by intro wSw hSw; (try dsimp only at hSw); go_simp; try with_reducible rfl⟩
              try simp only [Act.put, List.setIfInBounds_toArray, List.set_cons_zero, List.set_cons_succ]
              refine wpAnyH_take (i := 11) (oi := ?tko72) (v := ?tkv72) ?tkh72 (by kernel_rfl) (by kernel_rfl) (by kernel_rfl) ?tkq72 ?tky72 hHeld ?tkr72
              case tkh72 => (simp only [List.getElem?_toArray, List.getElem?_cons_succ, List.getElem?_cons_zero]; rfl)
              case tkq72 => exact fun _ _ _ h => h
              case tky72 => exact Or.inl ⟨by rfl, by intro wSw hSw; (try dsimp only at hSw); go_simp; try with_reducible rfl⟩
              try simp only [Act.put, List.setIfInBounds_toArray, List.set_cons_zero, List.set_cons_succ]
              refine wpAnyH_take (i := 12) (oi := ?tko73) (v := ?tkv73) ?tkh73 (by kernel_rfl) (by kernel_rfl) (by kernel_rfl) ?tkq73 ?tky73 hHeld ?tkr73
              case tkh73 => (simp only [List.getElem?_toArray, List.getElem?_cons_succ, List.getElem?_cons_zero]; rfl)
              case tkq73 => exact fun _ _ _ h => h
              case tky73 => exact Or.inl ⟨by rfl, by intro wSw hSw; (try dsimp only at hSw); go_simp; try with_reducible rfl⟩
              try simp only [Act.put, List.setIfInBounds_toArray, List.set_cons_zero, List.set_cons_succ]
              refine wpAnyH_take (i := 13) (oi := ?tko74) (v := ?tkv74) ?tkh74 (by kernel_rfl) (by kernel_rfl) (by kernel_rfl) ?tkq74 ?tky74 hHeld ?tkr74
              case tkh74 => (simp only [List.getElem?_toArray, List.getElem?_cons_succ, List.getElem?_cons_zero]; rfl)
              case tkq74 => exact fun _ _ _ h => h
              case tky74 => exact Or.inl ⟨by rfl, by intro wSw hSw; (try dsimp only at hSw); go_simp; try with_reducible rfl⟩
              try simp only [Act.put, List.setIfInBounds_toArray, List.set_cons_zero, List.set_cons_succ]
              refine wpAnyH_take (i := 14) (oi := ?tko75) (v := ?tkv75) ?tkh75 (by kernel_rfl) (by kernel_rfl) (by kernel_rfl) ?tkq75 ?tky75 hHeld ?tkr75
              case tkh75 => (simp only [List.getElem?_toArray, List.getElem?_cons_succ, List.getElem?_cons_zero]; rfl)
              case tkq75 => exact fun _ _ _ h => h
              case tky75 => exact Or.inl ⟨by rfl, by intro wSw hSw; (try dsimp only at hSw); go_simp; try with_reducible rfl⟩
              try simp only [Act.put, List.setIfInBounds_toArray, List.set_cons_zero, List.set_cons_succ]
              refine wpAnyH_take (i := 15) (oi := ?tko76) (v := ?tkv76) ?tkh76 (by kernel_rfl) (by kernel_rfl) (by kernel_rfl) ?tkq76 ?tky76 hHeld ?tkr76
              case tkh76 => (simp only [List.getElem?_toArray, List.getElem?_cons_succ, List.getElem?_cons_zero]; rfl)
              case tkq76 => exact fun _ _ _ h => h
              case tky76 => exact Or.inl ⟨by rfl, by intro wSw hSw; (try dsimp only at hSw); go_simp; try with_reducible rfl⟩
              try simp only [Act.put, List.setIfInBounds_toArray, List.set_cons_zero, List.set_cons_succ]
              refine wpAnyH_take (i := 16) (oi := ?tko77) (v := ?tkv77) ?tkh77 (by kernel_rfl) (by kernel_rfl) (by kernel_rfl) ?tkq77 ?tky77 hHeld ?tkr77
              case tkh77 => (simp only [List.getElem?_toArray, List.getElem?_cons_succ, List.getElem?_cons_zero]; rfl)
              case tkq77 => exact fun _ _ _ h => h
              case tky77 => exact Or.inl ⟨by rfl, by intro wSw hSw; (try dsimp only at hSw); go_simp; try with_reducible rfl⟩
              try simp only [Act.put, List.setIfInBounds_toArray, List.set_cons_zero, List.set_cons_succ]
              refine wpAnyH_take (i := 17) (oi := ?tko78) (v := ?tkv78) ?tkh78 (by kernel_rfl) (by kernel_rfl) (by kernel_rfl) ?tkq78 ?tky78 hHeld ?tkr78
              case tkh78 => (simp only [List.getElem?_toArray, List.getElem?_cons_succ, List.getElem?_cons_zero]; rfl)
              case tkq78 => exact fun _ _ _ h => h
              case tky78 => exact Or.inl ⟨by rfl, by intro wSw hSw; (try dsimp only at hSw); go_simp; try with_reducible rfl⟩
              try simp only [Act.put, List.setIfInBounds_toArray, List.set_cons_zero, List.set_cons_succ]
              refine wpAnyH_take (i := 18) (oi := ?tko79) (v := ?tkv79) ?tkh79 (by kernel_rfl) (by kernel_rfl) (by kernel_rfl) ?tkq79 ?tky79 hHeld ?tkr79
              case tkh79 => (simp only [List.getElem?_toArray, List.getElem?_cons_succ, List.getElem?_cons_zero]; rfl)
              case tkq79 => exact fun _ _ _ h => h
              case tky79 => exact Or.inl ⟨by rfl, by intro wSw hSw; (try dsimp only at hSw); go_simp; try with_reducible rfl⟩
              try simp only [Act.put, List.setIfInBounds_toArray, List.set_cons_zero, List.set_cons_succ]
              refine wpAnyH_take (i := 19) (oi := ?tko80) (v := ?tkv80) ?tkh80 (by kernel_rfl) (by kernel_rfl) (by kernel_rfl) ?tkq80 ?tky80 hHeld ?tkr80
              case tkh80 => (simp only [List.getElem?_toArray, List.getElem?_cons_succ, List.getElem?_cons_zero]; rfl)
              case tkq80 => exact fun _ _ _ h => h
              case tky80 => exact Or.inl ⟨by rfl, by intro wSw hSw; (try dsimp only at hSw); go_simp; try with_reducible rfl⟩
              try simp only [Act.put, List.setIfInBounds_toArray, List.set_cons_zero, List.set_cons_succ]
              refine wpAnyH_take (i := 20) (oi := ?tko81) (v := ?tkv81) ?tkh81 (by kernel_rfl) (by kernel_rfl) (by kernel_rfl) ?tkq81 ?tky81 hHeld ?tkr81
              case tkh81 => (simp only [List.getElem?_toArray, List.getElem?_cons_succ, List.getElem?_cons_zero]; rfl)
              case tkq81 => exact fun _ _ _ h => h
              case tky81 => exact Or.inl ⟨by rfl, by intro wSw hSw; (try dsimp only at hSw); go_simp; try with_reducible rfl⟩
              try simp only [Act.put, List.setIfInBounds_toArray, List.set_cons_zero, List.set_cons_succ]
              refine wpAnyH_take (i := 21) (oi := ?tko82) (v := ?tkv82) ?tkh82 (by kernel_rfl) (by kernel_rfl) (by kernel_rfl) ?tkq82 ?tky82 hHeld ?tkr82
              case tkh82 => (simp only [List.getElem?_toArray, List.getElem?_cons_succ, List.getElem?_cons_zero]; rfl)
              case tkq82 => exact fun _ _ _ h => h
              case tky82 => exact Or.inl ⟨by rfl, by intro wSw hSw; (try dsimp only at hSw); go_simp; try with_reducible rfl⟩
              try simp only [Act.put, List.setIfInBounds_toArray, List.set_cons_zero, List.set_cons_succ]
              refine wpAnyH_take (i := 22) (oi := ?tko83) (v := ?tkv83) ?tkh83 (by kernel_rfl) (by kernel_rfl) (by kernel_rfl) ?tkq83 ?tky83 hHeld ?tkr83
              case tkh83 => (simp only [List.getElem?_toArray, List.getElem?_cons_succ, List.getElem?_cons_zero]; rfl)
              case tkq83 => exact fun _ _ _ h => h
              case tky83 => exact Or.inl ⟨by rfl, by intro wSw hSw; (try dsimp only at hSw); go_simp; try with_reducible rfl⟩
              try simp only [Act.put, List.setIfInBounds_toArray, List.set_cons_zero, List.set_cons_succ]
              refine wpAnyH_take (i := 23) (oi := ?tko84) (v := ?tkv84) ?tkh84 (by kernel_rfl) (by kernel_rfl) (by kernel_rfl) ?tkq84 ?tky84 hHeld ?tkr84
              case tkh84 => (simp only [List.getElem?_toArray, List.getElem?_cons_succ, List.getElem?_cons_zero]; rfl)
              case tkq84 => exact fun _ _ _ h => h
              case tky84 => exact Or.inl ⟨by rfl, by intro wSw hSw; (try dsimp only at hSw); go_simp; try with_reducible rfl⟩
              try simp only [Act.put, List.setIfInBounds_toArray, List.set_cons_zero, List.set_cons_succ]
              refine wpAnyH_take (i := 24) (oi := ?tko85) (v := ?tkv85) ?tkh85 (by kernel_rfl) (by kernel_rfl) (by kernel_rfl) ?tkq85 ?tky85 hHeld ?tkr85
              case tkh85 => (simp only [List.getElem?_toArray, List.getElem?_cons_succ, List.getElem?_cons_zero]; rfl)
              case tkq85 => exact fun _ _ _ h => h
              case tky85 => exact Or.inl ⟨by rfl, by intro wSw hSw; (try dsimp only at hSw); go_simp; try with_reducible rfl⟩
              try simp only [Act.put, List.setIfInBounds_toArray, List.set_cons_zero, List.set_cons_succ]
              refine wpAnyH_take (i := 25) (oi := ?tko86) (v := ?tkv86) ?tkh86 (by kernel_rfl) (by kernel_rfl) (by kernel_rfl) ?tkq86 ?tky86 hHeld ?tkr86
              case tkh86 => (simp only [List.getElem?_toArray, List.getElem?_cons_succ, List.getElem?_cons_zero]; rfl)
              case tkq86 => exact fun _ _ _ h => h
              case tky86 => exact Or.inl ⟨by rfl, by intro wSw hSw; (try dsimp only at hSw); go_simp; try with_reducible rfl⟩
              try simp only [Act.put, List.setIfInBounds_toArray, List.set_cons_zero, List.set_cons_succ]
              refine wpAnyH_take (i := 26) (oi := ?tko87) (v := ?tkv87) ?tkh87 (by kernel_rfl) (by kernel_rfl) (by kernel_rfl) ?tkq87 ?tky87 hHeld ?tkr87
              case tkh87 => (simp only [List.getElem?_toArray, List.getElem?_cons_succ, List.getElem?_cons_zero]; rfl)
              case tkq87 => exact fun _ _ _ h => h
              case tky87 => exact Or.inl ⟨by rfl, by intro wSw hSw; (try dsimp only at hSw); go_simp; try with_reducible rfl⟩
              try simp only [Act.put, List.setIfInBounds_toArray, List.set_cons_zero, List.set_cons_succ]
              refine Skips.skips (by kernel_rfl) (fun _ _ _ _ _ h => h) hHeld [27, 28, 29] _ 23 _ _ (by kernel_rfl) ?tkk88 ?tkr88
              case tkk88 => kernel_rfl
              simp only [Skips.skipAct, Skips.skipListed, List.getElem?_toArray, List.getElem?_cons_succ, List.getElem?_cons_zero, Act.put, List.setIfInBounds_toArray, List.set_cons_zero, List.set_cons_succ]
              refine wpAnyH_take (i := 30) (oi := ?tko89) (v := ?tkv89) ?tkh89 (by kernel_rfl) (by kernel_rfl) (by kernel_rfl) ?tkq89 ?tky89 hHeld ?tkr89
              case tkh89 => (simp only [List.getElem?_toArray, List.getElem?_cons_succ, List.getElem?_cons_zero]; rfl)
              case tkq89 => exact fun _ _ _ h => h
              case tky89 => exact Or.inl ⟨by rfl, by intro wSw hSw; (try dsimp only at hSw); go_simp; try with_reducible rfl⟩
              try simp only [Act.put, List.setIfInBounds_toArray, List.set_cons_zero, List.set_cons_succ]
              refine wpAnyH_take (i := 31) (oi := ?tko90) (v := ?tkv90) ?tkh90 (by kernel_rfl) (by kernel_rfl) (by kernel_rfl) ?tkq90 ?tky90 hHeld ?tkr90
              case tkh90 => (simp only [List.getElem?_toArray, List.getElem?_cons_succ, List.getElem?_cons_zero]; rfl)
              case tkq90 => exact fun _ _ _ h => h
              case tky90 => exact Or.inl ⟨by rfl, by intro wSw hSw; (try dsimp only at hSw); go_simp; try with_reducible rfl⟩
              try simp only [Act.put, List.setIfInBounds_toArray, List.set_cons_zero, List.set_cons_succ]
              refine Skips.skips (by kernel_rfl) (fun _ _ _ _ _ h => h) hHeld [32, 33, 34, 35, 36, 37, 38, 39, 40, 41, 42, 43, 44, 45, 46, 47, 48, 49, 50] _ 2 _ _ (by kernel_rfl) ?tkk91 ?tkr91
              case tkk91 => kernel_rfl
              simp only [Skips.skipAct, Skips.skipListed, List.getElem?_toArray, List.getElem?_cons_succ, List.getElem?_cons_zero, Act.put, List.setIfInBounds_toArray, List.set_cons_zero, List.set_cons_succ]
              refine wpAnyH_take (i := 51) (oi := ?tko92) (v := ?tkv92) ?tkh92 (by kernel_rfl) (by kernel_rfl) (by kernel_rfl) ?tkq92 ?tky92 hHeld ?tkr92
              case tkh92 => (simp only [List.getElem?_toArray, List.getElem?_cons_succ, List.getElem?_cons_zero]; rfl)
              case tkq92 => exact fun _ _ _ h => h
              case tky92 => exact Or.inl ⟨by rfl, by intro wSw hSw; (try dsimp only at hSw); go_simp; try with_reducible rfl⟩
              try simp only [Act.put, List.setIfInBounds_toArray, List.set_cons_zero, List.set_cons_succ]
              refine wpAnyH_take (i := 52) (oi := ?tko93) (v := ?tkv93) ?tkh93 (by kernel_rfl) (by kernel_rfl) (by kernel_rfl) ?tkq93 ?tky93 hHeld ?tkr93
              case tkh93 => (simp only [List.getElem?_toArray, List.getElem?_cons_succ, List.getElem?_cons_zero]; rfl)
              case tkq93 => exact fun _ _ _ h => h
              case tky93 => exact Or.inl ⟨by rfl, by intro wSw hSw; (try dsimp only at hSw); go_simp; try with_reducible rfl⟩
              try simp only [Act.put, List.setIfInBounds_toArray, List.set_cons_zero, List.set_cons_succ]
              refine wpAnyH_done (by kernel_rfl) ?_ _
              clear hHeld
              go_wp2_with fail
              go_roundw
              case rel => exact ⟨q + 1, by simp, by omega, HBD.out⟩
              case measure => (show N - (q + 1) < N - q; omega)
            have c3n : decide (I ≤ q) = true := decide_eq_true (by omega)
            have c3i : decide (((I : Nat) : Int) ≤ ((q : Nat) : Int)) = true := decide_eq_true (by omega)
            by_cases hc4 : q < k
            rotate_left
            · have c4n : decide (q < k) = false := decide_eq_false (by omega)
              have c4i : decide (((q : Nat) : Int) < ((k : Nat) : Int)) = false := decide_eq_false (by omega)
              refine wp_region_held_drew (S := fun W => W.cell? ⟨B, p, none⟩ = some (.slice (some ⟨R p, 0, none⟩) N N) ∧ W.cell? ⟨R p, q, none⟩ = some (.bool true)) (by kernel_rfl) HO.out (fun hHeld => ?_)
              refine wpAnyH_take (i := 0) (oi := ?tko94) (v := ?tkv94) ?tkh94 (by kernel_rfl) (by kernel_rfl) (by kernel_rfl) ?tkq94 ?tky94 hHeld ?tkr94
              case tkh94 => (simp only [List.getElem?_toArray, List.getElem?_cons_zero]; rfl)
              case tkq94 => exact fun _ _ _ h => h
              case tky94 => exact Or.inl ⟨by rfl, by intro wSw hSw; (try dsimp only at hSw); go_simp; try with_reducible rfl⟩
              try simp only [Act.put, List.setIfInBounds_toArray, List.set_cons_zero, List.set_cons_succ]
              refine wpAnyH_take (i := 1) (oi := ?tko95) (v := ?tkv95) ?tkh95 (by kernel_rfl) (by kernel_rfl) (by kernel_rfl) ?tkq95 ?tky95 hHeld ?tkr95
              case tkh95 => (simp only [List.getElem?_toArray, List.getElem?_cons_succ, List.getElem?_cons_zero]; rfl)
              case tkq95 => exact fun _ _ _ h => h
              case tky95 => exact Or.inl ⟨by rfl, by intro wSw hSw; (try dsimp only at hSw); go_simp; try with_reducible rfl⟩
              try simp only [Act.put, List.setIfInBounds_toArray, List.set_cons_zero, List.set_cons_succ]
              refine wpAnyH_take (i := 2) (oi := ?tko96) (v := ?tkv96) ?tkh96 (by kernel_rfl) (by kernel_rfl) (by kernel_rfl) ?tkq96 ?tky96 hHeld ?tkr96
              case tkh96 => (simp only [List.getElem?_toArray, List.getElem?_cons_succ, List.getElem?_cons_zero]; rfl)
              case tkq96 => exact fun _ _ _ h => h
              case tky96 => exact Or.inl ⟨by rfl, by intro wSw hSw; (try dsimp only at hSw); go_simp; try with_reducible rfl⟩
              try simp only [Act.put, List.setIfInBounds_toArray, List.set_cons_zero, List.set_cons_succ]
              refine wpAnyH_take (i := 3) (oi := ?tko97) (v := ?tkv97) ?tkh97 (by kernel_rfl) (by kernel_rfl) (by kernel_rfl) ?tkq97 ?tky97 hHeld ?tkr97
              case tkh97 => (simp only [List.getElem?_toArray, List.getElem?_cons_succ, List.getElem?_cons_zero]; rfl)
              case tkq97 => exact fun _ _ _ h => h
              case tky97 => exact Or.inl ⟨by rfl, by intro wSw hSw; (try dsimp only at hSw); go_simp; try with_reducible rfl⟩
              try simp only [Act.put, List.setIfInBounds_toArray, List.set_cons_zero, List.set_cons_succ]
              refine wpAnyH_take (i := 4) (oi := ?tko98) (v := ?tkv98) ?tkh98 (by kernel_rfl) (by kernel_rfl) (by kernel_rfl) ?tkq98 ?tky98 hHeld ?tkr98
              case tkh98 => (simp only [List.getElem?_toArray, List.getElem?_cons_succ, List.getElem?_cons_zero]; rfl)
              case tkq98 => exact fun _ _ _ h => h
              case tky98 => exact Or.inl ⟨by rfl, by intro wSw hSw; (try dsimp only at hSw); go_simp; try with_reducible rfl⟩
              try simp only [Act.put, List.setIfInBounds_toArray, List.set_cons_zero, List.set_cons_succ]
              refine wpAnyH_take (i := 5) (oi := ?tko99) (v := ?tkv99) ?tkh99 (by kernel_rfl) (by kernel_rfl) (by kernel_rfl) ?tkq99 ?tky99 hHeld ?tkr99
              case tkh99 => (simp only [List.getElem?_toArray, List.getElem?_cons_succ, List.getElem?_cons_zero]; rfl)
              case tkq99 => exact fun _ _ _ h => h
              case tky99 => exact Or.inl ⟨by rfl, by intro wSw hSw; (try dsimp only at hSw); go_simp; try with_reducible rfl⟩
              try simp only [Act.put, List.setIfInBounds_toArray, List.set_cons_zero, List.set_cons_succ]
              refine wpAnyH_take (i := 6) (oi := ?tko100) (v := ?tkv100) ?tkh100 (by kernel_rfl) (by kernel_rfl) (by kernel_rfl) ?tkq100 ?tky100 hHeld ?tkr100
              case tkh100 => (simp only [List.getElem?_toArray, List.getElem?_cons_succ, List.getElem?_cons_zero]; rfl)
              case tkq100 => exact fun _ _ _ h => h
              case tky100 => exact Or.inl ⟨by rfl, by intro wSw hSw; (try dsimp only at hSw); go_simp; try with_reducible rfl⟩
              try simp only [Act.put, List.setIfInBounds_toArray, List.set_cons_zero, List.set_cons_succ]
              refine wpAnyH_take (i := 7) (oi := ?tko101) (v := ?tkv101) ?tkh101 (by kernel_rfl) (by kernel_rfl) (by kernel_rfl) ?tkq101 ?tky101 hHeld ?tkr101
              case tkh101 => (simp only [List.getElem?_toArray, List.getElem?_cons_succ, List.getElem?_cons_zero]; rfl)
              case tkq101 => exact fun _ _ _ h => h
              case tky101 => exact Or.inl ⟨by rfl, by intro wSw hSw; (try dsimp only at hSw); go_simp; try with_reducible rfl⟩
              try simp only [Act.put, List.setIfInBounds_toArray, List.set_cons_zero, List.set_cons_succ]
              refine wpAnyH_take (i := 8) (oi := ?tko102) (v := ?tkv102) ?tkh102 (by kernel_rfl) (by kernel_rfl) (by kernel_rfl) ?tkq102 ?tky102 hHeld ?tkr102
              case tkh102 => (simp only [List.getElem?_toArray, List.getElem?_cons_succ, List.getElem?_cons_zero]; rfl)
              case tkq102 => exact fun _ _ _ h => h
              case tky102 => exact Or.inl ⟨by rfl, by intro wSw hSw; (try dsimp only at hSw); go_simp; try with_reducible rfl⟩
              try simp only [Act.put, List.setIfInBounds_toArray, List.set_cons_zero, List.set_cons_succ]
              refine wpAnyH_take (i := 9) (oi := ?tko103) (v := ?tkv103) ?tkh103 (by kernel_rfl) (by kernel_rfl) (by kernel_rfl) ?tkq103 ?tky103 hHeld ?tkr103
              case tkh103 => (simp only [List.getElem?_toArray, List.getElem?_cons_succ, List.getElem?_cons_zero]; rfl)
              case tkq103 => exact fun _ _ _ h => h
              case tky103 => exact Or.inl ⟨by rfl, by intro wSw hSw; (try dsimp only at hSw); go_simp; try with_reducible rfl⟩
              try simp only [Act.put, List.setIfInBounds_toArray, List.set_cons_zero, List.set_cons_succ]
              refine wpAnyH_take (i := 10) (oi := ?tko104) (v := ?tkv104) ?tkh104 (by kernel_rfl) (by kernel_rfl) (by kernel_rfl) ?tkq104 ?tky104 hHeld ?tkr104
              case tkh104 => (simp only [List.getElem?_toArray, List.getElem?_cons_succ, List.getElem?_cons_zero]; rfl)
              case tkq104 => exact fun _ _ _ h => h
              case tky104 => exact Or.inl ⟨by rfl, by intro wSw hSw; (try dsimp only at hSw); go_simp; try with_reducible rfl⟩
              try simp only [Act.put, List.setIfInBounds_toArray, List.set_cons_zero, List.set_cons_succ]
              refine wpAnyH_take (i := 11) (oi := ?tko105) (v := ?tkv105) ?tkh105 (by kernel_rfl) (by kernel_rfl) (by kernel_rfl) ?tkq105 ?tky105 hHeld ?tkr105
              case tkh105 => (simp only [List.getElem?_toArray, List.getElem?_cons_succ, List.getElem?_cons_zero]; rfl)
              case tkq105 => exact fun _ _ _ h => h
              case tky105 => exact Or.inl ⟨by rfl, by intro wSw hSw; (try dsimp only at hSw); go_simp; try with_reducible rfl⟩
              try simp only [Act.put, List.setIfInBounds_toArray, List.set_cons_zero, List.set_cons_succ]
              refine wpAnyH_take (i := 12) (oi := ?tko106) (v := ?tkv106) ?tkh106 (by kernel_rfl) (by kernel_rfl) (by kernel_rfl) ?tkq106 ?tky106 hHeld ?tkr106
              case tkh106 => (simp only [List.getElem?_toArray, List.getElem?_cons_succ, List.getElem?_cons_zero]; rfl)
              case tkq106 => exact fun _ _ _ h => h
              case tky106 => exact Or.inl ⟨by rfl, by intro wSw hSw; (try dsimp only at hSw); go_simp; try with_reducible rfl⟩
              try simp only [Act.put, List.setIfInBounds_toArray, List.set_cons_zero, List.set_cons_succ]
              refine wpAnyH_take (i := 13) (oi := ?tko107) (v := ?tkv107) ?tkh107 (by kernel_rfl) (by kernel_rfl) (by kernel_rfl) ?tkq107 ?tky107 hHeld ?tkr107
              case tkh107 => (simp only [List.getElem?_toArray, List.getElem?_cons_succ, List.getElem?_cons_zero]; rfl)
              case tkq107 => exact fun _ _ _ h => h
              case tky107 => exact Or.inl ⟨by rfl, by intro wSw hSw; (try dsimp only at hSw); go_simp; try with_reducible rfl⟩
              try simp only [Act.put, List.setIfInBounds_toArray, List.set_cons_zero, List.set_cons_succ]
              refine wpAnyH_take (i := 14) (oi := ?tko108) (v := ?tkv108) ?tkh108 (by kernel_rfl) (by kernel_rfl) (by kernel_rfl) ?tkq108 ?tky108 hHeld ?tkr108
              case tkh108 => (simp only [List.getElem?_toArray, List.getElem?_cons_succ, List.getElem?_cons_zero]; rfl)
              case tkq108 => exact fun _ _ _ h => h
              case tky108 => exact Or.inl ⟨by rfl, by intro wSw hSw; (try dsimp only at hSw); go_simp; try with_reducible rfl⟩
              try simp only [Act.put, List.setIfInBounds_toArray, List.set_cons_zero, List.set_cons_succ]
              refine wpAnyH_take (i := 15) (oi := ?tko109) (v := ?tkv109) ?tkh109 (by kernel_rfl) (by kernel_rfl) (by kernel_rfl) ?tkq109 ?tky109 hHeld ?tkr109
              case tkh109 => (simp only [List.getElem?_toArray, List.getElem?_cons_succ, List.getElem?_cons_zero]; rfl)
              case tkq109 => exact fun _ _ _ h => h
              case tky109 => exact Or.inl ⟨by rfl, by intro wSw hSw; (try dsimp only at hSw); go_simp; try with_reducible rfl⟩
              try simp only [Act.put, List.setIfInBounds_toArray, List.set_cons_zero, List.set_cons_succ]
              refine wpAnyH_take (i := 16) (oi := ?tko110) (v := ?tkv110) ?tkh110 (by kernel_rfl) (by kernel_rfl) (by kernel_rfl) ?tkq110 ?tky110 hHeld ?tkr110
              case tkh110 => (simp only [List.getElem?_toArray, List.getElem?_cons_succ, List.getElem?_cons_zero]; rfl)
              case tkq110 => exact fun _ _ _ h => h
              case tky110 => exact Or.inl ⟨by rfl, by intro wSw hSw; (try dsimp only at hSw); go_simp; try with_reducible rfl⟩
              try simp only [Act.put, List.setIfInBounds_toArray, List.set_cons_zero, List.set_cons_succ]
              refine wpAnyH_take (i := 17) (oi := ?tko111) (v := ?tkv111) ?tkh111 (by kernel_rfl) (by kernel_rfl) (by kernel_rfl) ?tkq111 ?tky111 hHeld ?tkr111
              case tkh111 => (simp only [List.getElem?_toArray, List.getElem?_cons_succ, List.getElem?_cons_zero]; rfl)
              case tkq111 => exact fun _ _ _ h => h
              case tky111 => exact Or.inl ⟨by rfl, by intro wSw hSw; (try dsimp only at hSw); go_simp; try with_reducible rfl⟩
              try simp only [Act.put, List.setIfInBounds_toArray, List.set_cons_zero, List.set_cons_succ]
              refine wpAnyH_take (i := 18) (oi := ?tko112) (v := ?tkv112) ?tkh112 (by kernel_rfl) (by kernel_rfl) (by kernel_rfl) ?tkq112 ?tky112 hHeld ?tkr112
              case tkh112 => (simp only [List.getElem?_toArray, List.getElem?_cons_succ, List.getElem?_cons_zero]; rfl)
              case tkq112 => exact fun _ _ _ h => h
              case tky112 => exact Or.inl ⟨by rfl, by intro wSw hSw; (try dsimp only at hSw); go_simp; try with_reducible rfl⟩
              try simp only [Act.put, List.setIfInBounds_toArray, List.set_cons_zero, List.set_cons_succ]
              refine wpAnyH_take (i := 19) (oi := ?tko113) (v := ?tkv113) ?tkh113 (by kernel_rfl) (by kernel_rfl) (by kernel_rfl) ?tkq113 ?tky113 hHeld ?tkr113
              case tkh113 => (simp only [List.getElem?_toArray, List.getElem?_cons_succ, List.getElem?_cons_zero]; rfl)
              case tkq113 => exact fun _ _ _ h => h
              case tky113 => exact Or.inl ⟨by rfl, by intro wSw hSw; (try dsimp only at hSw); go_simp; try with_reducible rfl⟩
              try simp only [Act.put, List.setIfInBounds_toArray, List.set_cons_zero, List.set_cons_succ]
              refine wpAnyH_take (i := 20) (oi := ?tko114) (v := ?tkv114) ?tkh114 (by kernel_rfl) (by kernel_rfl) (by kernel_rfl) ?tkq114 ?tky114 hHeld ?tkr114
              case tkh114 => (simp only [List.getElem?_toArray, List.getElem?_cons_succ, List.getElem?_cons_zero]; rfl)
              case tkq114 => exact fun _ _ _ h => h
              case tky114 => exact Or.inl ⟨by rfl, by intro wSw hSw; (try dsimp only at hSw); go_simp; try with_reducible rfl⟩
              try simp only [Act.put, List.setIfInBounds_toArray, List.set_cons_zero, List.set_cons_succ]
              refine wpAnyH_take (i := 21) (oi := ?tko115) (v := ?tkv115) ?tkh115 (by kernel_rfl) (by kernel_rfl) (by kernel_rfl) ?tkq115 ?tky115 hHeld ?tkr115
              case tkh115 => (simp only [List.getElem?_toArray, List.getElem?_cons_succ, List.getElem?_cons_zero]; rfl)
              case tkq115 => exact fun _ _ _ h => h
              case tky115 => exact Or.inl ⟨by rfl, by intro wSw hSw; (try dsimp only at hSw); go_simp; try with_reducible rfl⟩
              try simp only [Act.put, List.setIfInBounds_toArray, List.set_cons_zero, List.set_cons_succ]
              refine wpAnyH_take (i := 22) (oi := ?tko116) (v := ?tkv116) ?tkh116 (by kernel_rfl) (by kernel_rfl) (by kernel_rfl) ?tkq116 ?tky116 hHeld ?tkr116
              case tkh116 => (simp only [List.getElem?_toArray, List.getElem?_cons_succ, List.getElem?_cons_zero]; rfl)
              case tkq116 => exact fun _ _ _ h => h
              case tky116 => exact Or.inl ⟨by rfl, by intro wSw hSw; (try dsimp only at hSw); go_simp; try with_reducible rfl⟩
              try simp only [Act.put, List.setIfInBounds_toArray, List.set_cons_zero, List.set_cons_succ]
              refine wpAnyH_take (i := 23) (oi := ?tko117) (v := ?tkv117) ?tkh117 (by kernel_rfl) (by kernel_rfl) (by kernel_rfl) ?tkq117 ?tky117 hHeld ?tkr117
              case tkh117 => (simp only [List.getElem?_toArray, List.getElem?_cons_succ, List.getElem?_cons_zero]; rfl)
              case tkq117 => exact fun _ _ _ h => h
              case tky117 => exact Or.inl ⟨by rfl, by intro wSw hSw; (try dsimp only at hSw); go_simp; try with_reducible rfl⟩
              try simp only [Act.put, List.setIfInBounds_toArray, List.set_cons_zero, List.set_cons_succ]
              refine wpAnyH_take (i := 24) (oi := ?tko118) (v := ?tkv118) ?tkh118 (by kernel_rfl) (by kernel_rfl) (by kernel_rfl) ?tkq118 ?tky118 hHeld ?tkr118
              case tkh118 => (simp only [List.getElem?_toArray, List.getElem?_cons_succ, List.getElem?_cons_zero]; rfl)
              case tkq118 => exact fun _ _ _ h => h
              case tky118 => exact Or.inl ⟨by rfl, by intro wSw hSw; (try dsimp only at hSw); go_simp; try with_reducible rfl⟩
              try simp only [Act.put, List.setIfInBounds_toArray, List.set_cons_zero, List.set_cons_succ]
              refine wpAnyH_take (i := 25) (oi := ?tko119) (v := ?tkv119) ?tkh119 (by kernel_rfl) (by kernel_rfl) (by kernel_rfl) ?tkq119 ?tky119 hHeld ?tkr119
              case tkh119 => (simp only [List.getElem?_toArray, List.getElem?_cons_succ, List.getElem?_cons_zero]; rfl)
              case tkq119 => exact fun _ _ _ h => h
              case tky119 => exact Or.inl ⟨by rfl, by intro wSw hSw; (try dsimp only at hSw); go_simp; try with_reducible rfl⟩
              try simp only [Act.put, List.setIfInBounds_toArray, List.set_cons_zero, List.set_cons_succ]
              refine wpAnyH_take (i := 26) (oi := ?tko120) (v := ?tkv120) ?tkh120 (by kernel_rfl) (by kernel_rfl) (by kernel_rfl) ?tkq120 ?tky120 hHeld ?tkr120
              case tkh120 => (simp only [List.getElem?_toArray, List.getElem?_cons_succ, List.getElem?_cons_zero]; rfl)
              case tkq120 => exact fun _ _ _ h => h
              case tky120 => exact Or.inl ⟨by rfl, by intro wSw hSw; (try dsimp only at hSw); go_simp; try with_reducible rfl⟩
              try simp only [Act.put, List.setIfInBounds_toArray, List.set_cons_zero, List.set_cons_succ]
              refine wpAnyH_take (i := 27) (oi := ?tko121) (v := ?tkv121) ?tkh121 (by kernel_rfl) (by kernel_rfl) (by kernel_rfl) ?tkq121 ?tky121 hHeld ?tkr121
              case tkh121 => (simp only [List.getElem?_toArray, List.getElem?_cons_succ, List.getElem?_cons_zero]; rfl)
              case tkq121 => exact fun _ _ _ h => h
              case tky121 => exact Or.inl ⟨by rfl, by intro wSw hSw; (try dsimp only at hSw); go_simp; try with_reducible rfl⟩
              try simp only [Act.put, List.setIfInBounds_toArray, List.set_cons_zero, List.set_cons_succ]
              refine wpAnyH_take (i := 28) (oi := ?tko122) (v := ?tkv122) ?tkh122 (by kernel_rfl) (by kernel_rfl) (by kernel_rfl) ?tkq122 ?tky122 hHeld ?tkr122
              case tkh122 => (simp only [List.getElem?_toArray, List.getElem?_cons_succ, List.getElem?_cons_zero]; rfl)
              case tkq122 => exact fun _ _ _ h => h
              case tky122 => exact Or.inl ⟨by rfl, by intro wSw hSw; (try dsimp only at hSw); go_simp; try with_reducible rfl⟩
              try simp only [Act.put, List.setIfInBounds_toArray, List.set_cons_zero, List.set_cons_succ]
              refine wpAnyH_take (i := 29) (oi := ?tko123) (v := ?tkv123) ?tkh123 (by kernel_rfl) (by kernel_rfl) (by kernel_rfl) ?tkq123 ?tky123 hHeld ?tkr123
              case tkh123 => (simp only [List.getElem?_toArray, List.getElem?_cons_succ, List.getElem?_cons_zero]; rfl)
              case tkq123 => exact fun _ _ _ h => h
              case tky123 => exact Or.inl ⟨by rfl, by intro wSw hSw; (try dsimp only at hSw); go_simp; try with_reducible rfl⟩
              try simp only [Act.put, List.setIfInBounds_toArray, List.set_cons_zero, List.set_cons_succ]
              refine wpAnyH_take (i := 30) (oi := ?tko124) (v := ?tkv124) ?tkh124 (by kernel_rfl) (by kernel_rfl) (by kernel_rfl) ?tkq124 ?tky124 hHeld ?tkr124
              case tkh124 => (simp only [List.getElem?_toArray, List.getElem?_cons_succ, List.getElem?_cons_zero]; rfl)
              case tkq124 => exact fun _ _ _ h => h
              case tky124 => exact Or.inl ⟨by rfl, by intro wSw hSw; (try dsimp only at hSw); go_simp; try with_reducible rfl⟩
              try simp only [Act.put, List.setIfInBounds_toArray, List.set_cons_zero, List.set_cons_succ]
              refine wpAnyH_take (i := 31) (oi := ?tko125) (v := ?tkv125) ?tkh125 (by kernel_rfl) (by kernel_rfl) (by kernel_rfl) ?tkq125 ?tky125 hHeld ?tkr125
              case tkh125 => (simp only [List.getElem?_toArray, List.getElem?_cons_succ, List.getElem?_cons_zero]; rfl)
              case tkq125 => exact fun _ _ _ h => h
              case tky125 => exact Or.inl ⟨by rfl, by intro wSw hSw; (try dsimp only at hSw); go_simp; try with_reducible rfl⟩
              try simp only [Act.put, List.setIfInBounds_toArray, List.set_cons_zero, List.set_cons_succ]
              refine Skips.skips (by kernel_rfl) (fun _ _ _ _ _ h => h) hHeld [32, 33, 34, 35, 36, 37, 38, 39, 40, 41, 42, 43, 44, 45, 46, 47, 48, 49, 50] _ 2 _ _ (by kernel_rfl) ?tkk126 ?tkr126
              case tkk126 => kernel_rfl
              simp only [Skips.skipAct, Skips.skipListed, List.getElem?_toArray, List.getElem?_cons_succ, List.getElem?_cons_zero, Act.put, List.setIfInBounds_toArray, List.set_cons_zero, List.set_cons_succ]
              refine wpAnyH_take (i := 51) (oi := ?tko127) (v := ?tkv127) ?tkh127 (by kernel_rfl) (by kernel_rfl) (by kernel_rfl) ?tkq127 ?tky127 hHeld ?tkr127
              case tkh127 => (simp only [List.getElem?_toArray, List.getElem?_cons_succ, List.getElem?_cons_zero]; rfl)
              case tkq127 => exact fun _ _ _ h => h
              case tky127 => exact Or.inl ⟨by rfl, by intro wSw hSw; (try dsimp only at hSw); go_simp; try with_reducible rfl⟩
              try simp only [Act.put, List.setIfInBounds_toArray, List.set_cons_zero, List.set_cons_succ]
              refine wpAnyH_take (i := 52) (oi := ?tko128) (v := ?tkv128) ?tkh128 (by kernel_rfl) (by kernel_rfl) (by kernel_rfl) ?tkq128 ?tky128 hHeld ?tkr128
              case tkh128 => (simp only [List.getElem?_toArray, List.getElem?_cons_succ, List.getElem?_cons_zero]; rfl)
              case tkq128 => exact fun _ _ _ h => h
              case tky128 => exact Or.inl ⟨by rfl, by intro wSw hSw; (try dsimp only at hSw); go_simp; try with_reducible rfl⟩
              try simp only [Act.put, List.setIfInBounds_toArray, List.set_cons_zero, List.set_cons_succ]
              refine wpAnyH_done (by kernel_rfl) ?_ _
              clear hHeld
              go_wp2_with fail
              go_roundw
              case rel => exact ⟨q + 1, by simp, by omega, HBD.out⟩
              case measure => (show N - (q + 1) < N - q; omega)
            have c4n : decide (q < k) = true := decide_eq_true (by omega)
            have c4i : decide (((q : Nat) : Int) < ((k : Nat) : Int)) = true := decide_eq_true (by omega)
            obtain ⟨pa, hpa⟩ : ∃ pa, p - I = pa := ⟨_, rfl⟩
            obtain ⟨qa, hqa⟩ : ∃ qa, q - I = qa := ⟨_, rfl⟩
            have HC := Lib.hid (HCUT.out ⟨hc1, hc2⟩ ⟨hc3, hc4⟩)
            rw [hpa, hqa] at HC
            have hpa1 : ((p : Nat) : Int) - ((I : Nat) : Int) = ((pa : Nat) : Int) := by omega
            have hqa1 : ((q : Nat) : Int) - ((I : Nat) : Int) = ((qa : Nat) : Int) := by omega
            have hpa2 : IntKind.i64.wrap ((pa : Nat) : Int) = ((pa : Nat) : Int) := by rw [IntKind.wrap_i64]; omega
            have hqa2 : IntKind.i64.wrap ((qa : Nat) : Int) = ((qa : Nat) : Int) := by rw [IntKind.wrap_i64]; omega
            have hpaJ : pa < J := by omega
            have hqaJ : qa < J := by omega
            have hpaJi : ((pa : Nat) : Int) < ((J : Nat) : Int) := by omega
            have hqaJi : ((qa : Nat) : Int) < ((J : Nat) : Int) := by omega
            clear hpa hqa
            refine wp_region_held_drew (S := fun W => W.cell? ⟨B, p, none⟩ = some (.slice (some ⟨R p, 0, none⟩) N N) ∧ W.cell? ⟨R p, q, none⟩ = some (.bool true) ∧ W.cell? ⟨B2, pa, none⟩ = some (.slice (some ⟨R2 pa, 0, none⟩) J J) ∧ W.cell? ⟨R2 pa, qa, none⟩ = some (.bool true)) (by kernel_rfl) ⟨HO.out.1, HO.out.2, HC.out.1, HC.out.2⟩ (fun hHeld => ?_)
            refine wpAnyH_take (i := 0) (oi := ?tko129) (v := ?tkv129) ?tkh129 (by kernel_rfl) (by kernel_rfl) (by kernel_rfl) ?tkq129 ?tky129 hHeld ?tkr129
            case tkh129 => (simp only [List.getElem?_toArray, List.getElem?_cons_zero]; rfl)
            case tkq129 => exact fun _ _ _ h => h
            case tky129 => exact Or.inl ⟨by rfl, by intro wSw hSw; (try dsimp only at hSw); go_simp; try with_reducible rfl⟩
            try simp only [Act.put, List.setIfInBounds_toArray, List.set_cons_zero, List.set_cons_succ]
            refine wpAnyH_take (i := 1) (oi := ?tko130) (v := ?tkv130) ?tkh130 (by kernel_rfl) (by kernel_rfl) (by kernel_rfl) ?tkq130 ?tky130 hHeld ?tkr130
            case tkh130 => (simp only [List.getElem?_toArray, List.getElem?_cons_succ, List.getElem?_cons_zero]; rfl)
            case tkq130 => exact fun _ _ _ h => h
            case tky130 => exact Or.inl ⟨by rfl, by intro wSw hSw; (try dsimp only at hSw); go_simp; try with_reducible rfl⟩
            try simp only [Act.put, List.setIfInBounds_toArray, List.set_cons_zero, List.set_cons_succ]
            refine wpAnyH_take (i := 2) (oi := ?tko131) (v := ?tkv131) ?tkh131 (by kernel_rfl) (by kernel_rfl) (by kernel_rfl) ?tkq131 ?tky131 hHeld ?tkr131
            case tkh131 => (simp only [List.getElem?_toArray, List.getElem?_cons_succ, List.getElem?_cons_zero]; rfl)
            case tkq131 => exact fun _ _ _ h => h
            case tky131 => exact Or.inl ⟨by rfl, by intro wSw hSw; (try dsimp only at hSw); go_simp; try with_reducible rfl⟩
            try simp only [Act.put, List.setIfInBounds_toArray, List.set_cons_zero, List.set_cons_succ]
            refine wpAnyH_take (i := 3) (oi := ?tko132) (v := ?tkv132) ?tkh132 (by kernel_rfl) (by kernel_rfl) (by kernel_rfl) ?tkq132 ?tky132 hHeld ?tkr132
            case tkh132 => (simp only [List.getElem?_toArray, List.getElem?_cons_succ, List.getElem?_cons_zero]; rfl)
            case tkq132 => exact fun _ _ _ h => h
            case tky132 => exact Or.inl ⟨by rfl, by intro wSw hSw; (try dsimp only at hSw); go_simp; try with_reducible rfl⟩
            try simp only [Act.put, List.setIfInBounds_toArray, List.set_cons_zero, List.set_cons_succ]
            refine wpAnyH_take (i := 4) (oi := ?tko133) (v := ?tkv133) ?tkh133 (by kernel_rfl) (by kernel_rfl) (by kernel_rfl) ?tkq133 ?tky133 hHeld ?tkr133
            case tkh133 => (simp only [List.getElem?_toArray, List.getElem?_cons_succ, List.getElem?_cons_zero]; rfl)
            case tkq133 => exact fun _ _ _ h => h
            case tky133 => exact Or.inl ⟨by rfl, by intro wSw hSw; (try dsimp only at hSw); go_simp; try with_reducible rfl⟩
            try simp only [Act.put, List.setIfInBounds_toArray, List.set_cons_zero, List.set_cons_succ]
            refine wpAnyH_take (i := 5) (oi := ?tko134) (v := ?tkv134) ?tkh134 (by kernel_rfl) (by kernel_rfl) (by kernel_rfl) ?tkq134 ?tky134 hHeld ?tkr134
            case tkh134 => (simp only [List.getElem?_toArray, List.getElem?_cons_succ, List.getElem?_cons_zero]; rfl)
            case tkq134 => exact fun _ _ _ h => h
            case tky134 => exact Or.inl ⟨by rfl, by intro wSw hSw; (try dsimp only at hSw); go_simp; try with_reducible rfl⟩
            try simp only [Act.put, List.setIfInBounds_toArray, List.set_cons_zero, List.set_cons_succ]
            refine wpAnyH_take (i := 6) (oi := ?tko135) (v := ?tkv135) ?tkh135 (by kernel_rfl) (by kernel_rfl) (by kernel_rfl) ?tkq135 ?tky135 hHeld ?tkr135
            case tkh135 => (simp only [List.getElem?_toArray, List.getElem?_cons_succ, List.getElem?_cons_zero]; rfl)
            case tkq135 => exact fun _ _ _ h => h
            case tky135 => exact Or.inl ⟨by rfl, by intro wSw hSw; (try dsimp only at hSw); go_simp; try with_reducible rfl⟩
            try simp only [Act.put, List.setIfInBounds_toArray, List.set_cons_zero, List.set_cons_succ]
            refine wpAnyH_take (i := 7) (oi := ?tko136) (v := ?tkv136) ?tkh136 (by kernel_rfl) (by kernel_rfl) (by kernel_rfl) ?tkq136 ?tky136 hHeld ?tkr136
            case tkh136 => (simp only [List.getElem?_toArray, List.getElem?_cons_succ, List.getElem?_cons_zero]; rfl)
            case tkq136 => exact fun _ _ _ h => h
            case tky136 => exact Or.inl ⟨by rfl, by intro wSw hSw; (try dsimp only at hSw); go_simp; try with_reducible rfl⟩
            try simp only [Act.put, List.setIfInBounds_toArray, List.set_cons_zero, List.set_cons_succ]
            refine wpAnyH_take (i := 8) (oi := ?tko137) (v := ?tkv137) ?tkh137 (by kernel_rfl) (by kernel_rfl) (by kernel_rfl) ?tkq137 ?tky137 hHeld ?tkr137
            case tkh137 => (simp only [List.getElem?_toArray, List.getElem?_cons_succ, List.getElem?_cons_zero]; rfl)
            case tkq137 => exact fun _ _ _ h => h
            case tky137 => exact Or.inl ⟨by rfl, by intro wSw hSw; (try dsimp only at hSw); go_simp; try with_reducible rfl⟩
            try simp only [Act.put, List.setIfInBounds_toArray, List.set_cons_zero, List.set_cons_succ]
            refine wpAnyH_take (i := 9) (oi := ?tko138) (v := ?tkv138) ?tkh138 (by kernel_rfl) (by kernel_rfl) (by kernel_rfl) ?tkq138 ?tky138 hHeld ?tkr138
            case tkh138 => (simp only [List.getElem?_toArray, List.getElem?_cons_succ, List.getElem?_cons_zero]; rfl)
            case tkq138 => exact fun _ _ _ h => h
            case tky138 => exact Or.inl ⟨by rfl, by intro wSw hSw; (try dsimp only at hSw); go_simp; try with_reducible rfl⟩
            try simp only [Act.put, List.setIfInBounds_toArray, List.set_cons_zero, List.set_cons_succ]
            refine wpAnyH_take (i := 10) (oi := ?tko139) (v := ?tkv139) ?tkh139 (by kernel_rfl) (by kernel_rfl) (by kernel_rfl) ?tkq139 ?tky139 hHeld ?tkr139
            case tkh139 => (simp only [List.getElem?_toArray, List.getElem?_cons_succ, List.getElem?_cons_zero]; rfl)
            case tkq139 => exact fun _ _ _ h => h
            case tky139 => exact Or.inl ⟨by rfl, by intro wSw hSw; (try dsimp only at hSw); go_simp; try with_reducible rfl⟩
            try simp only [Act.put, List.setIfInBounds_toArray, List.set_cons_zero, List.set_cons_succ]
            refine wpAnyH_take (i := 11) (oi := ?tko140) (v := ?tkv140) ?tkh140 (by kernel_rfl) (by kernel_rfl) (by kernel_rfl) ?tkq140 ?tky140 hHeld ?tkr140
            case tkh140 => (simp only [List.getElem?_toArray, List.getElem?_cons_succ, List.getElem?_cons_zero]; rfl)
            case tkq140 => exact fun _ _ _ h => h
            case tky140 => exact Or.inl ⟨by rfl, by intro wSw hSw; (try dsimp only at hSw); go_simp; try with_reducible rfl⟩
            try simp only [Act.put, List.setIfInBounds_toArray, List.set_cons_zero, List.set_cons_succ]
            refine wpAnyH_take (i := 12) (oi := ?tko141) (v := ?tkv141) ?tkh141 (by kernel_rfl) (by kernel_rfl) (by kernel_rfl) ?tkq141 ?tky141 hHeld ?tkr141
            case tkh141 => (simp only [List.getElem?_toArray, List.getElem?_cons_succ, List.getElem?_cons_zero]; rfl)
            case tkq141 => exact fun _ _ _ h => h
            case tky141 => exact Or.inl ⟨by rfl, by intro wSw hSw; (try dsimp only at hSw); go_simp; try with_reducible rfl⟩
            try simp only [Act.put, List.setIfInBounds_toArray, List.set_cons_zero, List.set_cons_succ]
            refine wpAnyH_take (i := 13) (oi := ?tko142) (v := ?tkv142) ?tkh142 (by kernel_rfl) (by kernel_rfl) (by kernel_rfl) ?tkq142 ?tky142 hHeld ?tkr142
            case tkh142 => (simp only [List.getElem?_toArray, List.getElem?_cons_succ, List.getElem?_cons_zero]; rfl)
            case tkq142 => exact fun _ _ _ h => h
            case tky142 => exact Or.inl ⟨by rfl, by intro wSw hSw; (try dsimp only at hSw); go_simp; try with_reducible rfl⟩
            try simp only [Act.put, List.setIfInBounds_toArray, List.set_cons_zero, List.set_cons_succ]
            refine wpAnyH_take (i := 14) (oi := ?tko143) (v := ?tkv143) ?tkh143 (by kernel_rfl) (by kernel_rfl) (by kernel_rfl) ?tkq143 ?tky143 hHeld ?tkr143
            case tkh143 => (simp only [List.getElem?_toArray, List.getElem?_cons_succ, List.getElem?_cons_zero]; rfl)
            case tkq143 => exact fun _ _ _ h => h
            case tky143 => exact Or.inl ⟨by rfl, by intro wSw hSw; (try dsimp only at hSw); go_simp; try with_reducible rfl⟩
            try simp only [Act.put, List.setIfInBounds_toArray, List.set_cons_zero, List.set_cons_succ]
            refine wpAnyH_take (i := 15) (oi := ?tko144) (v := ?tkv144) ?tkh144 (by kernel_rfl) (by kernel_rfl) (by kernel_rfl) ?tkq144 ?tky144 hHeld ?tkr144
            case tkh144 => (simp only [List.getElem?_toArray, List.getElem?_cons_succ, List.getElem?_cons_zero]; rfl)
            case tkq144 => exact fun _ _ _ h => h
            case tky144 => exact Or.inl ⟨by rfl, by intro wSw hSw; (try dsimp only at hSw); go_simp; try with_reducible rfl⟩
            try simp only [Act.put, List.setIfInBounds_toArray, List.set_cons_zero, List.set_cons_succ]
            refine wpAnyH_take (i := 16) (oi := ?tko145) (v := ?tkv145) ?tkh145 (by kernel_rfl) (by kernel_rfl) (by kernel_rfl) ?tkq145 ?tky145 hHeld ?tkr145
            case tkh145 => (simp only [List.getElem?_toArray, List.getElem?_cons_succ, List.getElem?_cons_zero]; rfl)
            case tkq145 => exact fun _ _ _ h => h
            case tky145 => exact Or.inl ⟨by rfl, by intro wSw hSw; (try dsimp only at hSw); go_simp; try with_reducible rfl⟩
            try simp only [Act.put, List.setIfInBounds_toArray, List.set_cons_zero, List.set_cons_succ]
            refine wpAnyH_take (i := 17) (oi := ?tko146) (v := ?tkv146) ?tkh146 (by kernel_rfl) (by kernel_rfl) (by kernel_rfl) ?tkq146 ?tky146 hHeld ?tkr146
            case tkh146 => (simp only [List.getElem?_toArray, List.getElem?_cons_succ, List.getElem?_cons_zero]; rfl)
            case tkq146 => exact fun _ _ _ h => h
            case tky146 => exact Or.inl ⟨by rfl, by intro wSw hSw; (try dsimp only at hSw); go_simp; try with_reducible rfl⟩
            try simp only [Act.put, List.setIfInBounds_toArray, List.set_cons_zero, List.set_cons_succ]
            refine wpAnyH_take (i := 18) (oi := ?tko147) (v := ?tkv147) ?tkh147 (by kernel_rfl) (by kernel_rfl) (by kernel_rfl) ?tkq147 ?tky147 hHeld ?tkr147
            case tkh147 => (simp only [List.getElem?_toArray, List.getElem?_cons_succ, List.getElem?_cons_zero]; rfl)
            case tkq147 => exact fun _ _ _ h => h
            case tky147 => exact Or.inl ⟨by rfl, by intro wSw hSw; (try dsimp only at hSw); go_simp; try with_reducible rfl⟩
            try simp only [Act.put, List.setIfInBounds_toArray, List.set_cons_zero, List.set_cons_succ]
            refine wpAnyH_take (i := 19) (oi := ?tko148) (v := ?tkv148) ?tkh148 (by kernel_rfl) (by kernel_rfl) (by kernel_rfl) ?tkq148 ?tky148 hHeld ?tkr148
            case tkh148 => (simp only [List.getElem?_toArray, List.getElem?_cons_succ, List.getElem?_cons_zero]; rfl)
            case tkq148 => exact fun _ _ _ h => h
            case tky148 => exact Or.inl ⟨by rfl, by intro wSw hSw; (try dsimp only at hSw); go_simp; try with_reducible rfl⟩
            try simp only [Act.put, List.setIfInBounds_toArray, List.set_cons_zero, List.set_cons_succ]
            refine wpAnyH_take (i := 20) (oi := ?tko149) (v := ?tkv149) ?tkh149 (by kernel_rfl) (by kernel_rfl) (by kernel_rfl) ?tkq149 ?tky149 hHeld ?tkr149
            case tkh149 => (simp only [List.getElem?_toArray, List.getElem?_cons_succ, List.getElem?_cons_zero]; rfl)
            case tkq149 => exact fun _ _ _ h => h
            case tky149 => exact Or.inl ⟨by rfl, by intro wSw hSw; (try dsimp only at hSw); go_simp; try with_reducible rfl⟩
            try simp only [Act.put, List.setIfInBounds_toArray, List.set_cons_zero, List.set_cons_succ]
            refine wpAnyH_take (i := 21) (oi := ?tko150) (v := ?tkv150) ?tkh150 (by kernel_rfl) (by kernel_rfl) (by kernel_rfl) ?tkq150 ?tky150 hHeld ?tkr150
            case tkh150 => (simp only [List.getElem?_toArray, List.getElem?_cons_succ, List.getElem?_cons_zero]; rfl)
            case tkq150 => exact fun _ _ _ h => h
            case tky150 => exact Or.inl ⟨by rfl, by intro wSw hSw; (try dsimp only at hSw); go_simp; try with_reducible rfl⟩
            try simp only [Act.put, List.setIfInBounds_toArray, List.set_cons_zero, List.set_cons_succ]
            refine wpAnyH_take (i := 22) (oi := ?tko151) (v := ?tkv151) ?tkh151 (by kernel_rfl) (by kernel_rfl) (by kernel_rfl) ?tkq151 ?tky151 hHeld ?tkr151
            case tkh151 => (simp only [List.getElem?_toArray, List.getElem?_cons_succ, List.getElem?_cons_zero]; rfl)
            case tkq151 => exact fun _ _ _ h => h
            case tky151 => exact Or.inl ⟨by rfl, by intro wSw hSw; (try dsimp only at hSw); go_simp; try with_reducible rfl⟩
            try simp only [Act.put, List.setIfInBounds_toArray, List.set_cons_zero, List.set_cons_succ]
            refine wpAnyH_take (i := 23) (oi := ?tko152) (v := ?tkv152) ?tkh152 (by kernel_rfl) (by kernel_rfl) (by kernel_rfl) ?tkq152 ?tky152 hHeld ?tkr152
            case tkh152 => (simp only [List.getElem?_toArray, List.getElem?_cons_succ, List.getElem?_cons_zero]; rfl)
            case tkq152 => exact fun _ _ _ h => h
            case tky152 => exact Or.inl ⟨by rfl, by intro wSw hSw; (try dsimp only at hSw); go_simp; try with_reducible rfl⟩
            try simp only [Act.put, List.setIfInBounds_toArray, List.set_cons_zero, List.set_cons_succ]
            refine wpAnyH_take (i := 24) (oi := ?tko153) (v := ?tkv153) ?tkh153 (by kernel_rfl) (by kernel_rfl) (by kernel_rfl) ?tkq153 ?tky153 hHeld ?tkr153
            case tkh153 => (simp only [List.getElem?_toArray, List.getElem?_cons_succ, List.getElem?_cons_zero]; rfl)
            case tkq153 => exact fun _ _ _ h => h
            case tky153 => exact Or.inl ⟨by rfl, by intro wSw hSw; (try dsimp only at hSw); go_simp; try with_reducible rfl⟩
            try simp only [Act.put, List.setIfInBounds_toArray, List.set_cons_zero, List.set_cons_succ]
            refine wpAnyH_take (i := 25) (oi := ?tko154) (v := ?tkv154) ?tkh154 (by kernel_rfl) (by kernel_rfl) (by kernel_rfl) ?tkq154 ?tky154 hHeld ?tkr154
            case tkh154 => (simp only [List.getElem?_toArray, List.getElem?_cons_succ, List.getElem?_cons_zero]; rfl)
            case tkq154 => exact fun _ _ _ h => h
            case tky154 => exact Or.inl ⟨by rfl, by intro wSw hSw; (try dsimp only at hSw); go_simp; try with_reducible rfl⟩
            try simp only [Act.put, List.setIfInBounds_toArray, List.set_cons_zero, List.set_cons_succ]
            refine wpAnyH_take (i := 26) (oi := ?tko155) (v := ?tkv155) ?tkh155 (by kernel_rfl) (by kernel_rfl) (by kernel_rfl) ?tkq155 ?tky155 hHeld ?tkr155
            case tkh155 => (simp only [List.getElem?_toArray, List.getElem?_cons_succ, List.getElem?_cons_zero]; rfl)
            case tkq155 => exact fun _ _ _ h => h
            case tky155 => exact Or.inl ⟨by rfl, by intro wSw hSw; (try dsimp only at hSw); go_simp; try with_reducible rfl⟩
            try simp only [Act.put, List.setIfInBounds_toArray, List.set_cons_zero, List.set_cons_succ]
            refine wpAnyH_take (i := 27) (oi := ?tko156) (v := ?tkv156) ?tkh156 (by kernel_rfl) (by kernel_rfl) (by kernel_rfl) ?tkq156 ?tky156 hHeld ?tkr156
            case tkh156 => (simp only [List.getElem?_toArray, List.getElem?_cons_succ, List.getElem?_cons_zero]; rfl)
            case tkq156 => exact fun _ _ _ h => h
            case tky156 => exact Or.inl ⟨by rfl, by intro wSw hSw; (try dsimp only at hSw); go_simp; try with_reducible rfl⟩
            try simp only [Act.put, List.setIfInBounds_toArray, List.set_cons_zero, List.set_cons_succ]
            refine wpAnyH_take (i := 28) (oi := ?tko157) (v := ?tkv157) ?tkh157 (by kernel_rfl) (by kernel_rfl) (by kernel_rfl) ?tkq157 ?tky157 hHeld ?tkr157
            case tkh157 => (simp only [List.getElem?_toArray, List.getElem?_cons_succ, List.getElem?_cons_zero]; rfl)
            case tkq157 => exact fun _ _ _ h => h
            case tky157 => exact Or.inl ⟨by rfl, by intro wSw hSw; (try dsimp only at hSw); go_simp; try with_reducible rfl⟩
            try simp only [Act.put, List.setIfInBounds_toArray, List.set_cons_zero, List.set_cons_succ]
            refine wpAnyH_take (i := 29) (oi := ?tko158) (v := ?tkv158) ?tkh158 (by kernel_rfl) (by kernel_rfl) (by kernel_rfl) ?tkq158 ?tky158 hHeld ?tkr158
            case tkh158 => (simp only [List.getElem?_toArray, List.getElem?_cons_succ, List.getElem?_cons_zero]; rfl)
            case tkq158 => exact fun _ _ _ h => h
            case tky158 => exact Or.inl ⟨by rfl, by intro wSw hSw; (try dsimp only at hSw); go_simp; try with_reducible rfl⟩
            try simp only [Act.put, List.setIfInBounds_toArray, List.set_cons_zero, List.set_cons_succ]
            refine wpAnyH_take (i := 30) (oi := ?tko159) (v := ?tkv159) ?tkh159 (by kernel_rfl) (by kernel_rfl) (by kernel_rfl) ?tkq159 ?tky159 hHeld ?tkr159
            case tkh159 => (simp only [List.getElem?_toArray, List.getElem?_cons_succ, List.getElem?_cons_zero]; rfl)
            case tkq159 => exact fun _ _ _ h => h
            case tky159 => exact Or.inl ⟨by rfl, by intro wSw hSw; (try dsimp only at hSw); go_simp; try with_reducible rfl⟩
            try simp only [Act.put, List.setIfInBounds_toArray, List.set_cons_zero, List.set_cons_succ]
            refine wpAnyH_take (i := 31) (oi := ?tko160) (v := ?tkv160) ?tkh160 (by kernel_rfl) (by kernel_rfl) (by kernel_rfl) ?tkq160 ?tky160 hHeld ?tkr160
            case tkh160 => (simp only [List.getElem?_toArray, List.getElem?_cons_succ, List.getElem?_cons_zero]; rfl)
            case tkq160 => exact fun _ _ _ h => h
            case tky160 => exact Or.inl ⟨by rfl, by intro wSw hSw; (try dsimp only at hSw); go_simp; try with_reducible rfl⟩
            try simp only [Act.put, List.setIfInBounds_toArray, List.set_cons_zero, List.set_cons_succ]
            refine wpAnyH_take (i := 32) (oi := ?tko161) (v := ?tkv161) ?tkh161 (by kernel_rfl) (by kernel_rfl) (by kernel_rfl) ?tkq161 ?tky161 hHeld ?tkr161
            case tkh161 => (simp only [List.getElem?_toArray, List.getElem?_cons_succ, List.getElem?_cons_zero]; rfl)
            case tkq161 => exact fun _ _ _ h => h
            case tky161 => exact Or.inl ⟨by rfl, by intro wSw hSw; (try dsimp only at hSw); go_simp; try with_reducible rfl⟩
            try simp only [Act.put, List.setIfInBounds_toArray, List.set_cons_zero, List.set_cons_succ]
            refine wpAnyH_take (i := 33) (oi := ?tko162) (v := ?tkv162) ?tkh162 (by kernel_rfl) (by kernel_rfl) (by kernel_rfl) ?tkq162 ?tky162 hHeld ?tkr162
            case tkh162 => (simp only [List.getElem?_toArray, List.getElem?_cons_succ, List.getElem?_cons_zero]; rfl)
            case tkq162 => exact fun _ _ _ h => h
            case tky162 => exact Or.inl ⟨by rfl, by intro wSw hSw; (try dsimp only at hSw); go_simp; try with_reducible rfl⟩
            try simp only [Act.put, List.setIfInBounds_toArray, List.set_cons_zero, List.set_cons_succ]
            refine wpAnyH_take (i := 34) (oi := ?tko163) (v := ?tkv163) ?tkh163 (by kernel_rfl) (by kernel_rfl) (by kernel_rfl) ?tkq163 ?tky163 hHeld ?tkr163
            case tkh163 => (simp only [List.getElem?_toArray, List.getElem?_cons_succ, List.getElem?_cons_zero]; rfl)
            case tkq163 => exact fun _ _ _ h => h
            case tky163 => exact Or.inl ⟨by rfl, by intro wSw hSw; (try dsimp only at hSw); go_simp; try with_reducible rfl⟩
            try simp only [Act.put, List.setIfInBounds_toArray, List.set_cons_zero, List.set_cons_succ]
            refine wpAnyH_take (i := 35) (oi := ?tko164) (v := ?tkv164) ?tkh164 (by kernel_rfl) (by kernel_rfl) (by kernel_rfl) ?tkq164 ?tky164 hHeld ?tkr164
            case tkh164 => (simp only [List.getElem?_toArray, List.getElem?_cons_succ, List.getElem?_cons_zero]; rfl)
            case tkq164 => exact fun _ _ _ h => h
            case tky164 => exact Or.inl ⟨by rfl, by intro wSw hSw; (try dsimp only at hSw); go_simp; try with_reducible rfl⟩
            try simp only [Act.put, List.setIfInBounds_toArray, List.set_cons_zero, List.set_cons_succ]
            refine wpAnyH_take (i := 36) (oi := ?tko165) (v := ?tkv165) ?tkh165 (by kernel_rfl) (by kernel_rfl) (by kernel_rfl) ?tkq165 ?tky165 hHeld ?tkr165
            case tkh165 => (simp only [List.getElem?_toArray, List.getElem?_cons_succ, List.getElem?_cons_zero]; rfl)
            case tkq165 => exact fun _ _ _ h => h
            case tky165 => exact Or.inl ⟨by rfl, by intro wSw hSw; (try dsimp only at hSw); go_simp; try with_reducible rfl⟩
            try simp only [Act.put, List.setIfInBounds_toArray, List.set_cons_zero, List.set_cons_succ]
            refine wpAnyH_take (i := 37) (oi := ?tko166) (v := ?tkv166) ?tkh166 (by kernel_rfl) (by kernel_rfl) (by kernel_rfl) ?tkq166 ?tky166 hHeld ?tkr166
            case tkh166 => (simp only [List.getElem?_toArray, List.getElem?_cons_succ, List.getElem?_cons_zero]; rfl)
            case tkq166 => exact fun _ _ _ h => h
            case tky166 => exact Or.inl ⟨by rfl, by intro wSw hSw; (try dsimp only at hSw); go_simp; try with_reducible rfl⟩
            try simp only [Act.put, List.setIfInBounds_toArray, List.set_cons_zero, List.set_cons_succ]
            refine wpAnyH_take (i := 38) (oi := ?tko167) (v := ?tkv167) ?tkh167 (by kernel_rfl) (by kernel_rfl) (by kernel_rfl) ?tkq167 ?tky167 hHeld ?tkr167
            case tkh167 => (simp only [List.getElem?_toArray, List.getElem?_cons_succ, List.getElem?_cons_zero]; rfl)
            case tkq167 => exact fun _ _ _ h => h
            case tky167 => exact Or.inl ⟨by rfl, by intro wSw hSw; (try dsimp only at hSw); go_simp; try with_reducible rfl⟩
            try simp only [Act.put, List.setIfInBounds_toArray, List.set_cons_zero, List.set_cons_succ]
            refine wpAnyH_take (i := 39) (oi := ?tko168) (v := ?tkv168) ?tkh168 (by kernel_rfl) (by kernel_rfl) (by kernel_rfl) ?tkq168 ?tky168 hHeld ?tkr168
            case tkh168 => (simp only [List.getElem?_toArray, List.getElem?_cons_succ, List.getElem?_cons_zero]; rfl)
            case tkq168 => exact fun _ _ _ h => h
            case tky168 => exact Or.inl ⟨by rfl, by intro wSw hSw; (try dsimp only at hSw); go_simp; try with_reducible rfl⟩
            try simp only [Act.put, List.setIfInBounds_toArray, List.set_cons_zero, List.set_cons_succ]
            refine wpAnyH_take (i := 40) (oi := ?tko169) (v := ?tkv169) ?tkh169 (by kernel_rfl) (by kernel_rfl) (by kernel_rfl) ?tkq169 ?tky169 hHeld ?tkr169
            case tkh169 => (simp only [List.getElem?_toArray, List.getElem?_cons_succ, List.getElem?_cons_zero]; rfl)
            case tkq169 => exact fun _ _ _ h => h
            case tky169 => exact Or.inl ⟨by rfl, by intro wSw hSw; (try dsimp only at hSw); go_simp; try with_reducible rfl⟩
            try simp only [Act.put, List.setIfInBounds_toArray, List.set_cons_zero, List.set_cons_succ]
            refine wpAnyH_take (i := 41) (oi := ?tko170) (v := ?tkv170) ?tkh170 (by kernel_rfl) (by kernel_rfl) (by kernel_rfl) ?tkq170 ?tky170 hHeld ?tkr170
            case tkh170 => (simp only [List.getElem?_toArray, List.getElem?_cons_succ, List.getElem?_cons_zero]; rfl)
            case tkq170 => exact fun _ _ _ h => h
            case tky170 => exact Or.inl ⟨by rfl, by intro wSw hSw; (try dsimp only at hSw); go_simp; try with_reducible rfl⟩
            try simp only [Act.put, List.setIfInBounds_toArray, List.set_cons_zero, List.set_cons_succ]
            refine wpAnyH_take (i := 42) (oi := ?tko171) (v := ?tkv171) ?tkh171 (by kernel_rfl) (by kernel_rfl) (by kernel_rfl) ?tkq171 ?tky171 hHeld ?tkr171
            case tkh171 => (simp only [List.getElem?_toArray, List.getElem?_cons_succ, List.getElem?_cons_zero]; rfl)
            case tkq171 => exact fun _ _ _ h => h
            case tky171 => exact Or.inl ⟨by rfl, by intro wSw hSw; (try dsimp only at hSw); go_simp; try with_reducible rfl⟩
            try simp only [Act.put, List.setIfInBounds_toArray, List.set_cons_zero, List.set_cons_succ]
            refine wpAnyH_take (i := 43) (oi := ?tko172) (v := ?tkv172) ?tkh172 (by kernel_rfl) (by kernel_rfl) (by kernel_rfl) ?tkq172 ?tky172 hHeld ?tkr172
            case tkh172 => (simp only [List.getElem?_toArray, List.getElem?_cons_succ, List.getElem?_cons_zero]; rfl)
            case tkq172 => exact fun _ _ _ h => h
            case tky172 => exact Or.inl ⟨by rfl, by intro wSw hSw; (try dsimp only at hSw); go_simp; try with_reducible rfl⟩
            try simp only [Act.put, List.setIfInBounds_toArray, List.set_cons_zero, List.set_cons_succ]
            refine wpAnyH_take (i := 44) (oi := ?tko173) (v := ?tkv173) ?tkh173 (by kernel_rfl) (by kernel_rfl) (by kernel_rfl) ?tkq173 ?tky173 hHeld ?tkr173
            case tkh173 => (simp only [List.getElem?_toArray, List.getElem?_cons_succ, List.getElem?_cons_zero]; rfl)
            case tkq173 => exact fun _ _ _ h => h
            case tky173 => exact Or.inl ⟨by rfl, by intro wSw hSw; (try dsimp only at hSw); go_simp; try with_reducible rfl⟩
            try simp only [Act.put, List.setIfInBounds_toArray, List.set_cons_zero, List.set_cons_succ]
            refine wpAnyH_take (i := 45) (oi := ?tko174) (v := ?tkv174) ?tkh174 (by kernel_rfl) (by kernel_rfl) (by kernel_rfl) ?tkq174 ?tky174 hHeld ?tkr174
            case tkh174 => (simp only [List.getElem?_toArray, List.getElem?_cons_succ, List.getElem?_cons_zero]; rfl)
            case tkq174 => exact fun _ _ _ h => h
            case tky174 => exact Or.inl ⟨by rfl, by intro wSw hSw; (try dsimp only at hSw); go_simp; try with_reducible rfl⟩
            try simp only [Act.put, List.setIfInBounds_toArray, List.set_cons_zero, List.set_cons_succ]
            refine wpAnyH_take (i := 46) (oi := ?tko175) (v := ?tkv175) ?tkh175 (by kernel_rfl) (by kernel_rfl) (by kernel_rfl) ?tkq175 ?tky175 hHeld ?tkr175
            case tkh175 => (simp only [List.getElem?_toArray, List.getElem?_cons_succ, List.getElem?_cons_zero]; rfl)
            case tkq175 => exact fun _ _ _ h => h
            case tky175 => exact Or.inl ⟨by rfl, by intro wSw hSw; (try dsimp only at hSw); go_simp; try with_reducible rfl⟩
            try simp only [Act.put, List.setIfInBounds_toArray, List.set_cons_zero, List.set_cons_succ]
            refine wpAnyH_take (i := 47) (oi := ?tko176) (v := ?tkv176) ?tkh176 (by kernel_rfl) (by kernel_rfl) (by kernel_rfl) ?tkq176 ?tky176 hHeld ?tkr176
            case tkh176 => (simp only [List.getElem?_toArray, List.getElem?_cons_succ, List.getElem?_cons_zero]; rfl)
            case tkq176 => exact fun _ _ _ h => h
            case tky176 => exact Or.inl ⟨by rfl, by intro wSw hSw; (try dsimp only at hSw); go_simp; try with_reducible rfl⟩
            try simp only [Act.put, List.setIfInBounds_toArray, List.set_cons_zero, List.set_cons_succ]
            refine wpAnyH_take (i := 48) (oi := ?tko177) (v := ?tkv177) ?tkh177 (by kernel_rfl) (by kernel_rfl) (by kernel_rfl) ?tkq177 ?tky177 hHeld ?tkr177
            case tkh177 => (simp only [List.getElem?_toArray, List.getElem?_cons_succ, List.getElem?_cons_zero]; rfl)
            case tkq177 => exact fun _ _ _ h => h
            case tky177 => exact Or.inl ⟨by rfl, by intro wSw hSw; (try dsimp only at hSw); go_simp; try with_reducible rfl⟩
            try simp only [Act.put, List.setIfInBounds_toArray, List.set_cons_zero, List.set_cons_succ]
            refine wpAnyH_take (i := 49) (oi := ?tko178) (v := ?tkv178) ?tkh178 (by kernel_rfl) (by kernel_rfl) (by kernel_rfl) ?tkq178 ?tky178 hHeld ?tkr178
            case tkh178 => (simp only [List.getElem?_toArray, List.getElem?_cons_succ, List.getElem?_cons_zero]; rfl)
            case tkq178 => exact fun _ _ _ h => h
            case tky178 => exact Or.inl ⟨by rfl, by intro wSw hSw; (try dsimp only at hSw); go_simp; try with_reducible rfl⟩
            try simp only [Act.put, List.setIfInBounds_toArray, List.set_cons_zero, List.set_cons_succ]
            refine wpAnyH_take (i := 50) (oi := ?tko179) (v := ?tkv179) ?tkh179 (by kernel_rfl) (by kernel_rfl) (by kernel_rfl) ?tkq179 ?tky179 hHeld ?tkr179
            case tkh179 => (simp only [List.getElem?_toArray, List.getElem?_cons_succ, List.getElem?_cons_zero]; rfl)
            case tkq179 => exact fun _ _ _ h => h
            case tky179 => exact Or.inl ⟨by rfl, by intro wSw hSw; (try dsimp only at hSw); go_simp; try with_reducible rfl⟩
            try simp only [Act.put, List.setIfInBounds_toArray, List.set_cons_zero, List.set_cons_succ]
            refine wpAnyH_take (i := 51) (oi := ?tko180) (v := ?tkv180) ?tkh180 (by kernel_rfl) (by kernel_rfl) (by kernel_rfl) ?tkq180 ?tky180 hHeld ?tkr180
            case tkh180 => (simp only [List.getElem?_toArray, List.getElem?_cons_succ, List.getElem?_cons_zero]; rfl)
            case tkq180 => exact fun _ _ _ h => h
            case tky180 => exact Or.inl ⟨by rfl, by intro wSw hSw; (try dsimp only at hSw); go_simp; try with_reducible rfl⟩
            try simp only [Act.put, List.setIfInBounds_toArray, List.set_cons_zero, List.set_cons_succ]
            refine wpAnyH_take (i := 52) (oi := ?tko181) (v := ?tkv181) ?tkh181 (by kernel_rfl) (by kernel_rfl) (by kernel_rfl) ?tkq181 ?tky181 hHeld ?tkr181
            case tkh181 => (simp only [List.getElem?_toArray, List.getElem?_cons_succ, List.getElem?_cons_zero]; rfl)
            case tkq181 => exact fun _ _ _ h => h
            case tky181 => exact Or.inl ⟨by rfl, by intro wSw hSw; (try dsimp only at hSw); go_simp; try with_reducible rfl⟩
            try simp only [Act.put, List.setIfInBounds_toArray, List.set_cons_zero, List.set_cons_succ]
            refine wpAnyH_done (by kernel_rfl) ?_ _
            clear hHeld
            go_wp2_with fail
            go_roundw
            case rel => exact ⟨q + 1, by simp, by omega, HBD.out⟩
            case measure => (show N - (q + 1) < N - q; omega)
          | false =>
            by_cases hc1 : I ≤ p
            rotate_left
            · have c1n : decide (I ≤ p) = false := decide_eq_false (by omega)
              have c1i : decide (((I : Nat) : Int) ≤ ((p : Nat) : Int)) = false := decide_eq_false (by omega)
              refine wp_region_held_drew (S := fun W => W.cell? ⟨B, p, none⟩ = some (.slice (some ⟨R p, 0, none⟩) N N) ∧ W.cell? ⟨R p, q, none⟩ = some (.bool false)) (by kernel_rfl) HO.out (fun hHeld => ?_)
              refine wpAnyH_take (i := 0) (oi := ?tko182) (v := ?tkv182) ?tkh182 (by kernel_rfl) (by kernel_rfl) (by kernel_rfl) ?tkq182 ?tky182 hHeld ?tkr182
              case tkh182 => (simp only [List.getElem?_toArray, List.getElem?_cons_zero]; rfl)
              case tkq182 => exact fun _ _ _ h => h
              case tky182 => exact Or.inl ⟨by rfl, by intro wSw hSw; (try dsimp only at hSw); go_simp; try with_reducible rfl⟩
              try simp only [Act.put, List.setIfInBounds_toArray, List.set_cons_zero, List.set_cons_succ]
              refine wpAnyH_take (i := 1) (oi := ?tko183) (v := ?tkv183) ?tkh183 (by kernel_rfl) (by kernel_rfl) (by kernel_rfl) ?tkq183 ?tky183 hHeld ?tkr183
              case tkh183 => (simp only [List.getElem?_toArray, List.getElem?_cons_succ, List.getElem?_cons_zero]; rfl)
              case tkq183 => exact fun _ _ _ h => h
              case tky183 => exact Or.inl ⟨by rfl, by intro wSw hSw; (try dsimp only at hSw); go_simp; try with_reducible rfl⟩
              try simp only [Act.put, List.setIfInBounds_toArray, List.set_cons_zero, List.set_cons_succ]
              refine wpAnyH_take (i := 2) (oi := ?tko184) (v := ?tkv184) ?tkh184 (by kernel_rfl) (by kernel_rfl) (by kernel_rfl) ?tkq184 ?tky184 hHeld ?tkr184
              case tkh184 => (simp only [List.getElem?_toArray, List.getElem?_cons_succ, List.getElem?_cons_zero]; rfl)
              case tkq184 => exact fun _ _ _ h => h
              case tky184 => exact Or.inl ⟨by rfl, by intro wSw hSw; (try dsimp only at hSw); go_simp; try with_reducible rfl⟩
              try simp only [Act.put, List.setIfInBounds_toArray, List.set_cons_zero, List.set_cons_succ]
              refine wpAnyH_take (i := 3) (oi := ?tko185) (v := ?tkv185) ?tkh185 (by kernel_rfl) (by kernel_rfl) (by kernel_rfl) ?tkq185 ?tky185 hHeld ?tkr185
              case tkh185 => (simp only [List.getElem?_toArray, List.getElem?_cons_succ, List.getElem?_cons_zero]; rfl)
              case tkq185 => exact fun _ _ _ h => h
              case tky185 => exact Or.inl ⟨by rfl, by intro wSw hSw; (try dsimp only at hSw); go_simp; try with_reducible rfl⟩
              try simp only [Act.put, List.setIfInBounds_toArray, List.set_cons_zero, List.set_cons_succ]
              refine wpAnyH_take (i := 4) (oi := ?tko186) (v := ?tkv186) ?tkh186 (by kernel_rfl) (by kernel_rfl) (by kernel_rfl) ?tkq186 ?tky186 hHeld ?tkr186
              case tkh186 => (simp only [List.getElem?_toArray, List.getElem?_cons_succ, List.getElem?_cons_zero]; rfl)
              case tkq186 => exact fun _ _ _ h => h
              case tky186 => exact Or.inl ⟨by rfl, by intro wSw hSw; (try dsimp only at hSw); go_simp; try with_reducible rfl⟩
              try simp only [Act.put, List.setIfInBounds_toArray, List.set_cons_zero, List.set_cons_succ]
              refine wpAnyH_take (i := 5) (oi := ?tko187) (v := ?tkv187) ?tkh187 (by kernel_rfl) (by kernel_rfl) (by kernel_rfl) ?tkq187 ?tky187 hHeld ?tkr187
              case tkh187 => (simp only [List.getElem?_toArray, List.getElem?_cons_succ, List.getElem?_cons_zero]; rfl)
              case tkq187 => exact fun _ _ _ h => h
              case tky187 => exact Or.inl ⟨by rfl, by intro wSw hSw; (try dsimp only at hSw); go_simp; try with_reducible rfl⟩
              try simp only [Act.put, List.setIfInBounds_toArray, List.set_cons_zero, List.set_cons_succ]
              refine wpAnyH_take (i := 6) (oi := ?tko188) (v := ?tkv188) ?tkh188 (by kernel_rfl) (by kernel_rfl) (by kernel_rfl) ?tkq188 ?tky188 hHeld ?tkr188
              case tkh188 => (simp only [List.getElem?_toArray, List.getElem?_cons_succ, List.getElem?_cons_zero]; rfl)
              case tkq188 => exact fun _ _ _ h => h
              case tky188 => exact Or.inl ⟨by rfl, by intro wSw hSw; (try dsimp only at hSw); go_simp; try with_reducible rfl⟩
              try simp only [Act.put, List.setIfInBounds_toArray, List.set_cons_zero, List.set_cons_succ]
              refine wpAnyH_take (i := 7) (oi := ?tko189) (v := ?tkv189) ?tkh189 (by kernel_rfl) (by kernel_rfl) (by kernel_rfl) ?tkq189 ?tky189 hHeld ?tkr189
              case tkh189 => (simp only [List.getElem?_toArray, List.getElem?_cons_succ, List.getElem?_cons_zero]; rfl)
              case tkq189 => exact fun _ _ _ h => h
              case tky189 => exact Or.inl ⟨by rfl, by intro wSw hSw; (try dsimp only at hSw); go_simp; try with_reducible rfl⟩
              try simp only [Act.put, List.setIfInBounds_toArray, List.set_cons_zero, List.set_cons_succ]
              refine Skips.skips (by kernel_rfl) (fun _ _ _ _ _ h => h) hHeld [8, 9, 10] _ 42 _ _ (by kernel_rfl) ?tkk190 ?tkr190
              case tkk190 => kernel_rfl
              simp only [Skips.skipAct, Skips.skipListed, List.getElem?_toArray, List.getElem?_cons_succ, List.getElem?_cons_zero, Act.put, List.setIfInBounds_toArray, List.set_cons_zero, List.set_cons_succ]
              refine wpAnyH_take (i := 11) (oi := ?tko191) (v := ?tkv191) ?tkh191 (by kernel_rfl) (by kernel_rfl) (by kernel_rfl) ?tkq191 ?tky191 hHeld ?tkr191
              case tkh191 => (simp only [List.getElem?_toArray, List.getElem?_cons_succ, List.getElem?_cons_zero]; rfl)
              case tkq191 => exact fun _ _ _ h => h
              case tky191 => exact Or.inl ⟨by rfl, by intro wSw hSw; (try dsimp only at hSw); go_simp; try with_reducible rfl⟩
              try simp only [Act.put, List.setIfInBounds_toArray, List.set_cons_zero, List.set_cons_succ]
              refine wpAnyH_take (i := 12) (oi := ?tko192) (v := ?tkv192) ?tkh192 (by kernel_rfl) (by kernel_rfl) (by kernel_rfl) ?tkq192 ?tky192 hHeld ?tkr192
              case tkh192 => (simp only [List.getElem?_toArray, List.getElem?_cons_succ, List.getElem?_cons_zero]; rfl)
              case tkq192 => exact fun _ _ _ h => h
              case tky192 => exact Or.inl ⟨by rfl, by intro wSw hSw; (try dsimp only at hSw); go_simp; try with_reducible rfl⟩
              try simp only [Act.put, List.setIfInBounds_toArray, List.set_cons_zero, List.set_cons_succ]
              refine wpAnyH_take (i := 13) (oi := ?tko193) (v := ?tkv193) ?tkh193 (by kernel_rfl) (by kernel_rfl) (by kernel_rfl) ?tkq193 ?tky193 hHeld ?tkr193
              case tkh193 => (simp only [List.getElem?_toArray, List.getElem?_cons_succ, List.getElem?_cons_zero]; rfl)
              case tkq193 => exact fun _ _ _ h => h
              case tky193 => exact Or.inl ⟨by rfl, by intro wSw hSw; (try dsimp only at hSw); go_simp; try with_reducible rfl⟩
              try simp only [Act.put, List.setIfInBounds_toArray, List.set_cons_zero, List.set_cons_succ]
              refine wpAnyH_take (i := 14) (oi := ?tko194) (v := ?tkv194) ?tkh194 (by kernel_rfl) (by kernel_rfl) (by kernel_rfl) ?tkq194 ?tky194 hHeld ?tkr194
              case tkh194 => (simp only [List.getElem?_toArray, List.getElem?_cons_succ, List.getElem?_cons_zero]; rfl)
              case tkq194 => exact fun _ _ _ h => h
              case tky194 => exact Or.inl ⟨by rfl, by intro wSw hSw; (try dsimp only at hSw); go_simp; try with_reducible rfl⟩
              try simp only [Act.put, List.setIfInBounds_toArray, List.set_cons_zero, List.set_cons_succ]
              refine wpAnyH_take (i := 15) (oi := ?tko195) (v := ?tkv195) ?tkh195 (by kernel_rfl) (by kernel_rfl) (by kernel_rfl) ?tkq195 ?tky195 hHeld ?tkr195
              case tkh195 => (simp only [List.getElem?_toArray, List.getElem?_cons_succ, List.getElem?_cons_zero]; rfl)
              case tkq195 => exact fun _ _ _ h => h
              case tky195 => exact Or.inl ⟨by rfl, by intro wSw hSw; (try dsimp only at hSw); go_simp; try with_reducible rfl⟩
              try simp only [Act.put, List.setIfInBounds_toArray, List.set_cons_zero, List.set_cons_succ]
              refine wpAnyH_take (i := 16) (oi := ?tko196) (v := ?tkv196) ?tkh196 (by kernel_rfl) (by kernel_rfl) (by kernel_rfl) ?tkq196 ?tky196 hHeld ?tkr196
              case tkh196 => (simp only [List.getElem?_toArray, List.getElem?_cons_succ, List.getElem?_cons_zero]; rfl)
              case tkq196 => exact fun _ _ _ h => h
              case tky196 => exact Or.inl ⟨by rfl, by intro wSw hSw; (try dsimp only at hSw); go_simp; try with_reducible rfl⟩
              try simp only [Act.put, List.setIfInBounds_toArray, List.set_cons_zero, List.set_cons_succ]
              refine Skips.skips (by kernel_rfl) (fun _ _ _ _ _ h => h) hHeld [17, 18, 19] _ 33 _ _ (by kernel_rfl) ?tkk197 ?tkr197
              case tkk197 => kernel_rfl
              simp only [Skips.skipAct, Skips.skipListed, List.getElem?_toArray, List.getElem?_cons_succ, List.getElem?_cons_zero, Act.put, List.setIfInBounds_toArray, List.set_cons_zero, List.set_cons_succ]
              refine wpAnyH_take (i := 20) (oi := ?tko198) (v := ?tkv198) ?tkh198 (by kernel_rfl) (by kernel_rfl) (by kernel_rfl) ?tkq198 ?tky198 hHeld ?tkr198
              case tkh198 => (simp only [List.getElem?_toArray, List.getElem?_cons_succ, List.getElem?_cons_zero]; rfl)
              case tkq198 => exact fun _ _ _ h => h
              case tky198 => exact Or.inl ⟨by rfl, by intro wSw hSw; (try dsimp only at hSw); go_simp; try with_reducible rfl⟩
              try simp only [Act.put, List.setIfInBounds_toArray, List.set_cons_zero, List.set_cons_succ]
              refine wpAnyH_take (i := 21) (oi := ?tko199) (v := ?tkv199) ?tkh199 (by kernel_rfl) (by kernel_rfl) (by kernel_rfl) ?tkq199 ?tky199 hHeld ?tkr199
              case tkh199 => (simp only [List.getElem?_toArray, List.getElem?_cons_succ, List.getElem?_cons_zero]; rfl)
              case tkq199 => exact fun _ _ _ h => h
              case tky199 => exact Or.inl ⟨by rfl, by intro wSw hSw; (try dsimp only at hSw); go_simp; try with_reducible rfl⟩
              try simp only [Act.put, List.setIfInBounds_toArray, List.set_cons_zero, List.set_cons_succ]
              refine Skips.skips (by kernel_rfl) (fun _ _ _ _ _ h => h) hHeld [22, 23, 24] _ 28 _ _ (by kernel_rfl) ?tkk200 ?tkr200
              case tkk200 => kernel_rfl
              simp only [Skips.skipAct, Skips.skipListed, List.getElem?_toArray, List.getElem?_cons_succ, List.getElem?_cons_zero, Act.put, List.setIfInBounds_toArray, List.set_cons_zero, List.set_cons_succ]
              refine wpAnyH_take (i := 25) (oi := ?tko201) (v := ?tkv201) ?tkh201 (by kernel_rfl) (by kernel_rfl) (by kernel_rfl) ?tkq201 ?tky201 hHeld ?tkr201
              case tkh201 => (simp only [List.getElem?_toArray, List.getElem?_cons_succ, List.getElem?_cons_zero]; rfl)
              case tkq201 => exact fun _ _ _ h => h
              case tky201 => exact Or.inl ⟨by rfl, by intro wSw hSw; (try dsimp only at hSw); go_simp; try with_reducible rfl⟩
              try simp only [Act.put, List.setIfInBounds_toArray, List.set_cons_zero, List.set_cons_succ]
              refine wpAnyH_take (i := 26) (oi := ?tko202) (v := ?tkv202) ?tkh202 (by kernel_rfl) (by kernel_rfl) (by kernel_rfl) ?tkq202 ?tky202 hHeld ?tkr202
              case tkh202 => (simp only [List.getElem?_toArray, List.getElem?_cons_succ, List.getElem?_cons_zero]; rfl)
              case tkq202 => exact fun _ _ _ h => h
              case tky202 => exact Or.inl ⟨by rfl, by intro wSw hSw; (try dsimp only at hSw); go_simp; try with_reducible rfl⟩
              try simp only [Act.put, List.setIfInBounds_toArray, List.set_cons_zero, List.set_cons_succ]
              refine Skips.skips (by kernel_rfl) (fun _ _ _ _ _ h => h) hHeld [27, 28, 29] _ 23 _ _ (by kernel_rfl) ?tkk203 ?tkr203
              case tkk203 => kernel_rfl
              simp only [Skips.skipAct, Skips.skipListed, List.getElem?_toArray, List.getElem?_cons_succ, List.getElem?_cons_zero, Act.put, List.setIfInBounds_toArray, List.set_cons_zero, List.set_cons_succ]
              refine wpAnyH_take (i := 30) (oi := ?tko204) (v := ?tkv204) ?tkh204 (by kernel_rfl) (by kernel_rfl) (by kernel_rfl) ?tkq204 ?tky204 hHeld ?tkr204
              case tkh204 => (simp only [List.getElem?_toArray, List.getElem?_cons_succ, List.getElem?_cons_zero]; rfl)
              case tkq204 => exact fun _ _ _ h => h
              case tky204 => exact Or.inl ⟨by rfl, by intro wSw hSw; (try dsimp only at hSw); go_simp; try with_reducible rfl⟩
              try simp only [Act.put, List.setIfInBounds_toArray, List.set_cons_zero, List.set_cons_succ]
              refine wpAnyH_take (i := 31) (oi := ?tko205) (v := ?tkv205) ?tkh205 (by kernel_rfl) (by kernel_rfl) (by kernel_rfl) ?tkq205 ?tky205 hHeld ?tkr205
              case tkh205 => (simp only [List.getElem?_toArray, List.getElem?_cons_succ, List.getElem?_cons_zero]; rfl)
              case tkq205 => exact fun _ _ _ h => h
              case tky205 => exact Or.inl ⟨by rfl, by intro wSw hSw; (try dsimp only at hSw); go_simp; try with_reducible rfl⟩
              try simp only [Act.put, List.setIfInBounds_toArray, List.set_cons_zero, List.set_cons_succ]
              refine Skips.skips (by kernel_rfl) (fun _ _ _ _ _ h => h) hHeld [32, 33, 34, 35, 36, 37, 38, 39, 40, 41, 42, 43, 44, 45, 46, 47, 48, 49, 50] _ 2 _ _ (by kernel_rfl) ?tkk206 ?tkr206
              case tkk206 => kernel_rfl
              simp only [Skips.skipAct, Skips.skipListed, List.getElem?_toArray, List.getElem?_cons_succ, List.getElem?_cons_zero, Act.put, List.setIfInBounds_toArray, List.set_cons_zero, List.set_cons_succ]
              refine wpAnyH_take (i := 51) (oi := ?tko207) (v := ?tkv207) ?tkh207 (by kernel_rfl) (by kernel_rfl) (by kernel_rfl) ?tkq207 ?tky207 hHeld ?tkr207
              case tkh207 => (simp only [List.getElem?_toArray, List.getElem?_cons_succ, List.getElem?_cons_zero]; rfl)
              case tkq207 => exact fun _ _ _ h => h
              case tky207 => exact Or.inl ⟨by rfl, by intro wSw hSw; (try dsimp only at hSw); go_simp; try with_reducible rfl⟩
              try simp only [Act.put, List.setIfInBounds_toArray, List.set_cons_zero, List.set_cons_succ]
              refine wpAnyH_take (i := 52) (oi := ?tko208) (v := ?tkv208) ?tkh208 (by kernel_rfl) (by kernel_rfl) (by kernel_rfl) ?tkq208 ?tky208 hHeld ?tkr208
              case tkh208 => (simp only [List.getElem?_toArray, List.getElem?_cons_succ, List.getElem?_cons_zero]; rfl)
              case tkq208 => exact fun _ _ _ h => h
              case tky208 => exact Or.inl ⟨by rfl, by intro wSw hSw; (try dsimp only at hSw); go_simp; try with_reducible rfl⟩
              try simp only [Act.put, List.setIfInBounds_toArray, List.set_cons_zero, List.set_cons_succ]
              refine wpAnyH_done (by kernel_rfl) ?_ _
              clear hHeld
              go_wp2_with fail
              go_roundw
              case rel => exact ⟨q + 1, by simp, by omega, HBD.out⟩
              case measure => (show N - (q + 1) < N - q; omega)
            have c1n : decide (I ≤ p) = true := decide_eq_true (by omega)
            have c1i : decide (((I : Nat) : Int) ≤ ((p : Nat) : Int)) = true := decide_eq_true (by omega)
            by_cases hc2 : p < k
            rotate_left
            · have c2n : decide (p < k) = false := decide_eq_false (by omega)
              have c2i : decide (((p : Nat) : Int) < ((k : Nat) : Int)) = false := decide_eq_false (by omega)
              refine wp_region_held_drew (S := fun W => W.cell? ⟨B, p, none⟩ = some (.slice (some ⟨R p, 0, none⟩) N N) ∧ W.cell? ⟨R p, q, none⟩ = some (.bool false)) (by kernel_rfl) HO.out (fun hHeld => ?_)
              refine wpAnyH_take (i := 0) (oi := ?tko209) (v := ?tkv209) ?tkh209 (by kernel_rfl) (by kernel_rfl) (by kernel_rfl) ?tkq209 ?tky209 hHeld ?tkr209
              case tkh209 => (simp only [List.getElem?_toArray, List.getElem?_cons_zero]; rfl)
              case tkq209 => exact fun _ _ _ h => h
              case tky209 => exact Or.inl ⟨by rfl, by intro wSw hSw; (try dsimp only at hSw); go_simp; try with_reducible rfl⟩
              try simp only [Act.put, List.setIfInBounds_toArray, List.set_cons_zero, List.set_cons_succ]
              refine wpAnyH_take (i := 1) (oi := ?tko210) (v := ?tkv210) ?tkh210 (by kernel_rfl) (by kernel_rfl) (by kernel_rfl) ?tkq210 ?tky210 hHeld ?tkr210
              case tkh210 => (simp only [List.getElem?_toArray, List.getElem?_cons_succ, List.getElem?_cons_zero]; rfl)
              case tkq210 => exact fun _ _ _ h => h
              case tky210 => exact Or.inl ⟨by rfl, by intro wSw hSw; (try dsimp only at hSw); go_simp; try with_reducible rfl⟩
              try simp only [Act.put, List.setIfInBounds_toArray, List.set_cons_zero, List.set_cons_succ]
              refine wpAnyH_take (i := 2) (oi := ?tko211) (v := ?tkv211) ?tkh211 (by kernel_rfl) (by kernel_rfl) (by kernel_rfl) ?tkq211 ?tky211 hHeld ?tkr211
              case tkh211 => (simp only [List.getElem?_toArray, List.getElem?_cons_succ, List.getElem?_cons_zero]; rfl)
              case tkq211 => exact fun _ _ _ h => h
              case tky211 => exact Or.inl ⟨by rfl, by intro wSw hSw; (try dsimp only at hSw); go_simp; try with_reducible rfl⟩
              try simp only [Act.put, List.setIfInBounds_toArray, List.set_cons_zero, List.set_cons_succ]
              refine wpAnyH_take (i := 3) (oi := ?tko212) (v := ?tkv212) ?tkh212 (by kernel_rfl) (by kernel_rfl) (by kernel_rfl) ?tkq212 ?tky212 hHeld ?tkr212
              case tkh212 => (simp only [List.getElem?_toArray, List.getElem?_cons_succ, List.getElem?_cons_zero]; rfl)
              case tkq212 => exact fun _ _ _ h => h
              case tky212 => exact Or.inl ⟨by rfl, by intro wSw hSw; (try dsimp only at hSw); go_simp; try with_reducible rfl⟩
              try simp only [Act.put, List.setIfInBounds_toArray, List.set_cons_zero, List.set_cons_succ]
              refine wpAnyH_take (i := 4) (oi := ?tko213) (v := ?tkv213) ?tkh213 (by kernel_rfl) (by kernel_rfl) (by kernel_rfl) ?tkq213 ?tky213 hHeld ?tkr213
              case tkh213 => (simp only [List.getElem?_toArray, List.getElem?_cons_succ, List.getElem?_cons_zero]; rfl)
              case tkq213 => exact fun _ _ _ h => h
              case tky213 => exact Or.inl ⟨by rfl, by intro wSw hSw; (try dsimp only at hSw); go_simp; try with_reducible rfl⟩
              try simp only [Act.put, List.setIfInBounds_toArray, List.set_cons_zero, List.set_cons_succ]
              refine wpAnyH_take (i := 5) (oi := ?tko214) (v := ?tkv214) ?tkh214 (by kernel_rfl) (by kernel_rfl) (by kernel_rfl) ?tkq214 ?tky214 hHeld ?tkr214
              case tkh214 => (simp only [List.getElem?_toArray, List.getElem?_cons_succ, List.getElem?_cons_zero]; rfl)
              case tkq214 => exact fun _ _ _ h => h
              case tky214 => exact Or.inl ⟨by rfl, by intro wSw hSw; (try dsimp only at hSw); go_simp; try with_reducible rfl⟩
              try simp only [Act.put, List.setIfInBounds_toArray, List.set_cons_zero, List.set_cons_succ]
              refine wpAnyH_take (i := 6) (oi := ?tko215) (v := ?tkv215) ?tkh215 (by kernel_rfl) (by kernel_rfl) (by kernel_rfl) ?tkq215 ?tky215 hHeld ?tkr215
              case tkh215 => (simp only [List.getElem?_toArray, List.getElem?_cons_succ, List.getElem?_cons_zero]; rfl)
              case tkq215 => exact fun _ _ _ h => h
              case tky215 => exact Or.inl ⟨by rfl, by intro wSw hSw; (try dsimp only at hSw); go_simp; try with_reducible rfl⟩
              try simp only [Act.put, List.setIfInBounds_toArray, List.set_cons_zero, List.set_cons_succ]
              refine wpAnyH_take (i := 7) (oi := ?tko216) (v := ?tkv216) ?tkh216 (by kernel_rfl) (by kernel_rfl) (by kernel_rfl) ?tkq216 ?tky216 hHeld ?tkr216
              case tkh216 => (simp only [List.getElem?_toArray, List.getElem?_cons_succ, List.getElem?_cons_zero]; rfl)
              case tkq216 => exact fun _ _ _ h => h
              case tky216 => exact Or.inl ⟨by rfl, by intro wSw hSw; (try dsimp only at hSw); go_simp; try with_reducible rfl⟩
              try simp only [Act.put, List.setIfInBounds_toArray, List.set_cons_zero, List.set_cons_succ]
              refine Skips.skips (by kernel_rfl) (fun _ _ _ _ _ h => h) hHeld [8, 9, 10] _ 42 _ _ (by kernel_rfl) ?tkk217 ?tkr217
              case tkk217 => kernel_rfl
              simp only [Skips.skipAct, Skips.skipListed, List.getElem?_toArray, List.getElem?_cons_succ, List.getElem?_cons_zero, Act.put, List.setIfInBounds_toArray, List.set_cons_zero, List.set_cons_succ]
              refine wpAnyH_take (i := 11) (oi := ?tko218) (v := ?tkv218) ?tkh218 (by kernel_rfl) (by kernel_rfl) (by kernel_rfl) ?tkq218 ?tky218 hHeld ?tkr218
              case tkh218 => (simp only [List.getElem?_toArray, List.getElem?_cons_succ, List.getElem?_cons_zero]; rfl)
              case tkq218 => exact fun _ _ _ h => h
              case tky218 => exact Or.inl ⟨by rfl, by intro wSw hSw; (try dsimp only at hSw); go_simp; try with_reducible rfl⟩
              try simp only [Act.put, List.setIfInBounds_toArray, List.set_cons_zero, List.set_cons_succ]
              refine wpAnyH_take (i := 12) (oi := ?tko219) (v := ?tkv219) ?tkh219 (by kernel_rfl) (by kernel_rfl) (by kernel_rfl) ?tkq219 ?tky219 hHeld ?tkr219
              case tkh219 => (simp only [List.getElem?_toArray, List.getElem?_cons_succ, List.getElem?_cons_zero]; rfl)
              case tkq219 => exact fun _ _ _ h => h
              case tky219 => exact Or.inl ⟨by rfl, by intro wSw hSw; (try dsimp only at hSw); go_simp; try with_reducible rfl⟩
              try simp only [Act.put, List.setIfInBounds_toArray, List.set_cons_zero, List.set_cons_succ]
              refine wpAnyH_take (i := 13) (oi := ?tko220) (v := ?tkv220) ?tkh220 (by kernel_rfl) (by kernel_rfl) (by kernel_rfl) ?tkq220 ?tky220 hHeld ?tkr220
              case tkh220 => (simp only [List.getElem?_toArray, List.getElem?_cons_succ, List.getElem?_cons_zero]; rfl)
              case tkq220 => exact fun _ _ _ h => h
              case tky220 => exact Or.inl ⟨by rfl, by intro wSw hSw; (try dsimp only at hSw); go_simp; try with_reducible rfl⟩
              try simp only [Act.put, List.setIfInBounds_toArray, List.set_cons_zero, List.set_cons_succ]
              refine wpAnyH_take (i := 14) (oi := ?tko221) (v := ?tkv221) ?tkh221 (by kernel_rfl) (by kernel_rfl) (by kernel_rfl) ?tkq221 ?tky221 hHeld ?tkr221
              case tkh221 => (simp only [List.getElem?_toArray, List.getElem?_cons_succ, List.getElem?_cons_zero]; rfl)
              case tkq221 => exact fun _ _ _ h => h
              case tky221 => exact Or.inl ⟨by rfl, by intro wSw hSw; (try dsimp only at hSw); go_simp; try with_reducible rfl⟩
              try simp only [Act.put, List.setIfInBounds_toArray, List.set_cons_zero, List.set_cons_succ]
              refine wpAnyH_take (i := 15) (oi := ?tko222) (v := ?tkv222) ?tkh222 (by kernel_rfl) (by kernel_rfl) (by kernel_rfl) ?tkq222 ?tky222 hHeld ?tkr222
              case tkh222 => (simp only [List.getElem?_toArray, List.getElem?_cons_succ, List.getElem?_cons_zero]; rfl)
              case tkq222 => exact fun _ _ _ h => h
              case tky222 => exact Or.inl ⟨by rfl, by intro wSw hSw; (try dsimp only at hSw); go_simp; try with_reducible rfl⟩
              try simp only [Act.put, List.setIfInBounds_toArray, List.set_cons_zero, List.set_cons_succ]
              refine wpAnyH_take (i := 16) (oi := ?tko223) (v := ?tkv223) ?tkh223 (by kernel_rfl) (by kernel_rfl) (by kernel_rfl) ?tkq223 ?tky223 hHeld ?tkr223
              case tkh223 => (simp only [List.getElem?_toArray, List.getElem?_cons_succ, List.getElem?_cons_zero]; rfl)
              case tkq223 => exact fun _ _ _ h => h
              case tky223 => exact Or.inl ⟨by rfl, by intro wSw hSw; (try dsimp only at hSw); go_simp; try with_reducible rfl⟩
              try simp only [Act.put, List.setIfInBounds_toArray, List.set_cons_zero, List.set_cons_succ]
              refine wpAnyH_take (i := 17) (oi := ?tko224) (v := ?tkv224) ?tkh224 (by kernel_rfl) (by kernel_rfl) (by kernel_rfl) ?tkq224 ?tky224 hHeld ?tkr224
              case tkh224 => (simp only [List.getElem?_toArray, List.getElem?_cons_succ, List.getElem?_cons_zero]; rfl)
              case tkq224 => exact fun _ _ _ h => h
              case tky224 => exact Or.inl ⟨by rfl, by intro wSw hSw; (try dsimp only at hSw); go_simp; try with_reducible rfl⟩
              try simp only [Act.put, List.setIfInBounds_toArray, List.set_cons_zero, List.set_cons_succ]
              refine wpAnyH_take (i := 18) (oi := ?tko225) (v := ?tkv225) ?tkh225 (by kernel_rfl) (by kernel_rfl) (by kernel_rfl) ?tkq225 ?tky225 hHeld ?tkr225
              case tkh225 => (simp only [List.getElem?_toArray, List.getElem?_cons_succ, List.getElem?_cons_zero]; rfl)
              case tkq225 => exact fun _ _ _ h => h
              case tky225 => exact Or.inl ⟨by rfl, by intro wSw hSw; (try dsimp only at hSw); go_simp; try with_reducible rfl⟩
              try simp only [Act.put, List.setIfInBounds_toArray, List.set_cons_zero, List.set_cons_succ]
              refine wpAnyH_take (i := 19) (oi := ?tko226) (v := ?tkv226) ?tkh226 (by kernel_rfl) (by kernel_rfl) (by kernel_rfl) ?tkq226 ?tky226 hHeld ?tkr226
              case tkh226 => (simp only [List.getElem?_toArray, List.getElem?_cons_succ, List.getElem?_cons_zero]; rfl)
              case tkq226 => exact fun _ _ _ h => h
              case tky226 => exact Or.inl ⟨by rfl, by intro wSw hSw; (try dsimp only at hSw); go_simp; try with_reducible rfl⟩
              try simp only [Act.put, List.setIfInBounds_toArray, List.set_cons_zero, List.set_cons_succ]
              refine wpAnyH_take (i := 20) (oi := ?tko227) (v := ?tkv227) ?tkh227 (by kernel_rfl) (by kernel_rfl) (by kernel_rfl) ?tkq227 ?tky227 hHeld ?tkr227
              case tkh227 => (simp only [List.getElem?_toArray, List.getElem?_cons_succ, List.getElem?_cons_zero]; rfl)
              case tkq227 => exact fun _ _ _ h => h
              case tky227 => exact Or.inl ⟨by rfl, by intro wSw hSw; (try dsimp only at hSw); go_simp; try with_reducible rfl⟩
              try simp only [Act.put, List.setIfInBounds_toArray, List.set_cons_zero, List.set_cons_succ]
              refine wpAnyH_take (i := 21) (oi := ?tko228) (v := ?tkv228) ?tkh228 (by kernel_rfl) (by kernel_rfl) (by kernel_rfl) ?tkq228 ?tky228 hHeld ?tkr228
              case tkh228 => (simp only [List.getElem?_toArray, List.getElem?_cons_succ, List.getElem?_cons_zero]; rfl)
              case tkq228 => exact fun _ _ _ h => h
              case tky228 => exact Or.inl ⟨by rfl, by intro wSw hSw; (try dsimp only at hSw); go_simp; try with_reducible rfl⟩
              try simp only [Act.put, List.setIfInBounds_toArray, List.set_cons_zero, List.set_cons_succ]
              refine Skips.skips (by kernel_rfl) (fun _ _ _ _ _ h => h) hHeld [22, 23, 24] _ 28 _ _ (by kernel_rfl) ?tkk229 ?tkr229
              case tkk229 => kernel_rfl
              simp only [Skips.skipAct, Skips.skipListed, List.getElem?_toArray, List.getElem?_cons_succ, List.getElem?_cons_zero, Act.put, List.setIfInBounds_toArray, List.set_cons_zero, List.set_cons_succ]
              refine wpAnyH_take (i := 25) (oi := ?tko230) (v := ?tkv230) ?tkh230 (by kernel_rfl) (by kernel_rfl) (by kernel_rfl) ?tkq230 ?tky230 hHeld ?tkr230
              case tkh230 => (simp only [List.getElem?_toArray, List.getElem?_cons_succ, List.getElem?_cons_zero]; rfl)
              case tkq230 => exact fun _ _ _ h => h
              case tky230 => exact Or.inl ⟨by rfl, by intro wSw hSw; (try dsimp only at hSw); go_simp; try with_reducible rfl⟩
              try simp only [Act.put, List.setIfInBounds_toArray, List.set_cons_zero, List.set_cons_succ]
              refine wpAnyH_take (i := 26) (oi := ?tko231) (v := ?tkv231) ?tkh231 (by kernel_rfl) (by kernel_rfl) (by kernel_rfl) ?tkq231 ?tky231 hHeld ?tkr231
              case tkh231 => (simp only [List.getElem?_toArray, List.getElem?_cons_succ, List.getElem?_cons_zero]; rfl)
              case tkq231 => exact fun _ _ _ h => h
              case tky231 => exact Or.inl ⟨by rfl, by intro wSw hSw; (try dsimp only at hSw); go_simp; try with_reducible rfl⟩
              try simp only [Act.put, List.setIfInBounds_toArray, List.set_cons_zero, List.set_cons_succ]
              refine Skips.skips (by kernel_rfl) (fun _ _ _ _ _ h => h) hHeld [27, 28, 29] _ 23 _ _ (by kernel_rfl) ?tkk232 ?tkr232
              case tkk232 => kernel_rfl
              simp only [Skips.skipAct, Skips.skipListed, List.getElem?_toArray, List.getElem?_cons_succ, List.getElem?_cons_zero, Act.put, List.setIfInBounds_toArray, List.set_cons_zero, List.set_cons_succ]
              refine wpAnyH_take (i := 30) (oi := ?tko233) (v := ?tkv233) ?tkh233 (by kernel_rfl) (by kernel_rfl) (by kernel_rfl) ?tkq233 ?tky233 hHeld ?tkr233
              case tkh233 => (simp only [List.getElem?_toArray, List.getElem?_cons_succ, List.getElem?_cons_zero]; rfl)
              case tkq233 => exact fun _ _ _ h => h
              case tky233 => exact Or.inl ⟨by rfl, by intro wSw hSw; (try dsimp only at hSw); go_simp; try with_reducible rfl⟩
              try simp only [Act.put, List.setIfInBounds_toArray, List.set_cons_zero, List.set_cons_succ]
              refine wpAnyH_take (i := 31) (oi := ?tko234) (v := ?tkv234) ?tkh234 (by kernel_rfl) (by kernel_rfl) (by kernel_rfl) ?tkq234 ?tky234 hHeld ?tkr234
              case tkh234 => (simp only [List.getElem?_toArray, List.getElem?_cons_succ, List.getElem?_cons_zero]; rfl)
              case tkq234 => exact fun _ _ _ h => h
              case tky234 => exact Or.inl ⟨by rfl, by intro wSw hSw; (try dsimp only at hSw); go_simp; try with_reducible rfl⟩
              try simp only [Act.put, List.setIfInBounds_toArray, List.set_cons_zero, List.set_cons_succ]
              refine Skips.skips (by kernel_rfl) (fun _ _ _ _ _ h => h) hHeld [32, 33, 34, 35, 36, 37, 38, 39, 40, 41, 42, 43, 44, 45, 46, 47, 48, 49, 50] _ 2 _ _ (by kernel_rfl) ?tkk235 ?tkr235
              case tkk235 => kernel_rfl
              simp only [Skips.skipAct, Skips.skipListed, List.getElem?_toArray, List.getElem?_cons_succ, List.getElem?_cons_zero, Act.put, List.setIfInBounds_toArray, List.set_cons_zero, List.set_cons_succ]
              refine wpAnyH_take (i := 51) (oi := ?tko236) (v := ?tkv236) ?tkh236 (by kernel_rfl) (by kernel_rfl) (by kernel_rfl) ?tkq236 ?tky236 hHeld ?tkr236
              case tkh236 => (simp only [List.getElem?_toArray, List.getElem?_cons_succ, List.getElem?_cons_zero]; rfl)
              case tkq236 => exact fun _ _ _ h => h
              case tky236 => exact Or.inl ⟨by rfl, by intro wSw hSw; (try dsimp only at hSw); go_simp; try with_reducible rfl⟩
              try simp only [Act.put, List.setIfInBounds_toArray, List.set_cons_zero, List.set_cons_succ]
              refine wpAnyH_take (i := 52) (oi := ?tko237) (v := ?tkv237) ?tkh237 (by kernel_rfl) (by kernel_rfl) (by kernel_rfl) ?tkq237 ?tky237 hHeld ?tkr237
              case tkh237 => (simp only [List.getElem?_toArray, List.getElem?_cons_succ, List.getElem?_cons_zero]; rfl)
              case tkq237 => exact fun _ _ _ h => h
              case tky237 => exact Or.inl ⟨by rfl, by intro wSw hSw; (try dsimp only at hSw); go_simp; try with_reducible rfl⟩
              try simp only [Act.put, List.setIfInBounds_toArray, List.set_cons_zero, List.set_cons_succ]
              refine wpAnyH_done (by kernel_rfl) ?_ _
              clear hHeld
              go_wp2_with fail
              go_roundw
              case rel => exact ⟨q + 1, by simp, by omega, HBD.out⟩
              case measure => (show N - (q + 1) < N - q; omega)
            have c2n : decide (p < k) = true := decide_eq_true (by omega)
            have c2i : decide (((p : Nat) : Int) < ((k : Nat) : Int)) = true := decide_eq_true (by omega)
            by_cases hc3 : I ≤ q
            rotate_left
            · have c3n : decide (I ≤ q) = false := decide_eq_false (by omega)
              have c3i : decide (((I : Nat) : Int) ≤ ((q : Nat) : Int)) = false := decide_eq_false (by omega)
              refine wp_region_held_drew (S := fun W => W.cell? ⟨B, p, none⟩ = some (.slice (some ⟨R p, 0, none⟩) N N) ∧ W.cell? ⟨R p, q, none⟩ = some (.bool false)) (by kernel_rfl) HO.out (fun hHeld => ?_)
              refine wpAnyH_take (i := 0) (oi := ?tko238) (v := ?tkv238) ?tkh238 (by kernel_rfl) (by kernel_rfl) (by kernel_rfl) ?tkq238 ?tky238 hHeld ?tkr238
              case tkh238 => (simp only [List.getElem?_toArray, List.getElem?_cons_zero]; rfl)
              case tkq238 => exact fun _ _ _ h => h
              case tky238 => exact Or.inl ⟨by rfl, by intro wSw hSw; (try dsimp only at hSw); go_simp; try with_reducible rfl⟩
              try simp only [Act.put, List.setIfInBounds_toArray, List.set_cons_zero, List.set_cons_succ]
              refine wpAnyH_take (i := 1) (oi := ?tko239) (v := ?tkv239) ?tkh239 (by kernel_rfl) (by kernel_rfl) (by kernel_rfl) ?tkq239 ?tky239 hHeld ?tkr239
              case tkh239 => (simp only [List.getElem?_toArray, List.getElem?_cons_succ, List.getElem?_cons_zero]; rfl)
              case tkq239 => exact fun _ _ _ h => h
              case tky239 => exact Or.inl ⟨by rfl, by intro wSw hSw; (try dsimp only at hSw); go_simp; try with_reducible rfl⟩
              try simp only [Act.put, List.setIfInBounds_toArray, List.set_cons_zero, List.set_cons_succ]
              refine wpAnyH_take (i := 2) (oi := ?tko240) (v := ?tkv240) ?tkh240 (by kernel_rfl) (by kernel_rfl) (by kernel_rfl) ?tkq240 ?tky240 hHeld ?tkr240
              case tkh240 => (simp only [List.getElem?_toArray, List.getElem?_cons_succ, List.getElem?_cons_zero]; rfl)
              case tkq240 => exact fun _ _ _ h => h
              case tky240 => exact Or.inl ⟨by rfl, by intro wSw hSw; (try dsimp only at hSw); go_simp; try with_reducible rfl⟩
              try simp only [Act.put, List.setIfInBounds_toArray, List.set_cons_zero, List.set_cons_succ]
              refine wpAnyH_take (i := 3) (oi := ?tko241) (v := ?tkv241) ?tkh241 (by kernel_rfl) (by kernel_rfl) (by kernel_rfl) ?tkq241 ?tky241 hHeld ?tkr241
              case tkh241 => (simp only [List.getElem?_toArray, List.getElem?_cons_succ, List.getElem?_cons_zero]; rfl)
              case tkq241 => exact fun _ _ _ h => h
              case tky241 => exact Or.inl ⟨by rfl, by intro wSw hSw; (try dsimp only at hSw); go_simp; try with_reducible rfl⟩
              try simp only [Act.put, List.setIfInBounds_toArray, List.set_cons_zero, List.set_cons_succ]
              refine wpAnyH_take (i := 4) (oi := ?tko242) (v := ?tkv242) ?tkh242 (by kernel_rfl) (by kernel_rfl) (by kernel_rfl) ?tkq242 ?tky242 hHeld ?tkr242
              case tkh242 => (simp only [List.getElem?_toArray, List.getElem?_cons_succ, List.getElem?_cons_zero]; rfl)
              case tkq242 => exact fun _ _ _ h => h
              case tky242 => exact Or.inl ⟨by rfl, by intro wSw hSw; (try dsimp only at hSw); go_simp; try with_reducible rfl⟩
              try simp only [Act.put, List.setIfInBounds_toArray, List.set_cons_zero, List.set_cons_succ]
              refine wpAnyH_take (i := 5) (oi := ?tko243) (v := ?tkv243) ?tkh243 (by kernel_rfl) (by kernel_rfl) (by kernel_rfl) ?tkq243 ?tky243 hHeld ?tkr243
              case tkh243 => (simp only [List.getElem?_toArray, List.getElem?_cons_succ, List.getElem?_cons_zero]; rfl)
              case tkq243 => exact fun _ _ _ h => h
              case tky243 => exact Or.inl ⟨by rfl, by intro wSw hSw; (try dsimp only at hSw); go_simp; try with_reducible rfl⟩
              try simp only [Act.put, List.setIfInBounds_toArray, List.set_cons_zero, List.set_cons_succ]
              refine wpAnyH_take (i := 6) (oi := ?tko244) (v := ?tkv244) ?tkh244 (by kernel_rfl) (by kernel_rfl) (by kernel_rfl) ?tkq244 ?tky244 hHeld ?tkr244
              case tkh244 => (simp only [List.getElem?_toArray, List.getElem?_cons_succ, List.getElem?_cons_zero]; rfl)
              case tkq244 => exact fun _ _ _ h => h
              case tky244 => exact Or.inl ⟨by rfl, by intro wSw hSw; (try dsimp only at hSw); go_simp; try with_reducible rfl⟩
              try simp only [Act.put, List.setIfInBounds_toArray, List.set_cons_zero, List.set_cons_succ]
              refine wpAnyH_take (i := 7) (oi := ?tko245) (v := ?tkv245) ?tkh245 (by kernel_rfl) (by kernel_rfl) (by kernel_rfl) ?tkq245 ?tky245 hHeld ?tkr245
              case tkh245 => (simp only [List.getElem?_toArray, List.getElem?_cons_succ, List.getElem?_cons_zero]; rfl)
              case tkq245 => exact fun _ _ _ h => h
              case tky245 => exact Or.inl ⟨by rfl, by intro wSw hSw; (try dsimp only at hSw); go_simp; try with_reducible rfl⟩
              try simp only [Act.put, List.setIfInBounds_toArray, List.set_cons_zero, List.set_cons_succ]
              refine Skips.skips (by kernel_rfl) (fun _ _ _ _ _ h => h) hHeld [8, 9, 10] _ 42 _ _ (by kernel_rfl) ?tkk246 ?tkr246
              case tkk246 => kernel_rfl
              simp only [Skips.skipAct, Skips.skipListed, List.getElem?_toArray, List.getElem?_cons_succ, List.getElem?_cons_zero, Act.put, List.setIfInBounds_toArray, List.set_cons_zero, List.set_cons_succ]
              refine wpAnyH_take (i := 11) (oi := ?tko247) (v := ?tkv247) ?tkh247 (by kernel_rfl) (by kernel_rfl) (by kernel_rfl) ?tkq247 ?tky247 hHeld ?tkr247
              case tkh247 => (simp only [List.getElem?_toArray, List.getElem?_cons_succ, List.getElem?_cons_zero]; rfl)
              case tkq247 => exact fun _ _ _ h => h
              case tky247 => exact Or.inl ⟨by rfl, by intro wSw hSw; (try dsimp only at hSw); go_simp; try with_reducible rfl⟩
              try simp only [Act.put, List.setIfInBounds_toArray, List.set_cons_zero, List.set_cons_succ]
              refine wpAnyH_take (i := 12) (oi := ?tko248) (v := ?tkv248) ?tkh248 (by kernel_rfl) (by kernel_rfl) (by kernel_rfl) ?tkq248 ?tky248 hHeld ?tkr248
              case tkh248 => (simp only [List.getElem?_toArray, List.getElem?_cons_succ, List.getElem?_cons_zero]; rfl)
              case tkq248 => exact fun _ _ _ h => h
              case tky248 => exact Or.inl ⟨by rfl, by intro wSw hSw; (try dsimp only at hSw); go_simp; try with_reducible rfl⟩
              try simp only [Act.put, List.setIfInBounds_toArray, List.set_cons_zero, List.set_cons_succ]
              refine wpAnyH_take (i := 13) (oi := ?tko249) (v := ?tkv249) ?tkh249 (by kernel_rfl) (by kernel_rfl) (by kernel_rfl) ?tkq249 ?tky249 hHeld ?tkr249
              case tkh249 => (simp only [List.getElem?_toArray, List.getElem?_cons_succ, List.getElem?_cons_zero]; rfl)
              case tkq249 => exact fun _ _ _ h => h
              case tky249 => exact Or.inl ⟨by rfl, by intro wSw hSw; (try dsimp only at hSw); go_simp; try with_reducible rfl⟩
              try simp only [Act.put, List.setIfInBounds_toArray, List.set_cons_zero, List.set_cons_succ]
              refine wpAnyH_take (i := 14) (oi := ?tko250) (v := ?tkv250) ?tkh250 (by kernel_rfl) (by kernel_rfl) (by kernel_rfl) ?tkq250 ?tky250 hHeld ?tkr250
              case tkh250 => (simp only [List.getElem?_toArray, List.getElem?_cons_succ, List.getElem?_cons_zero]; rfl)
              case tkq250 => exact fun _ _ _ h => h
              case tky250 => exact Or.inl ⟨by rfl, by intro wSw hSw; (try dsimp only at hSw); go_simp; try with_reducible rfl⟩
              try simp only [Act.put, List.setIfInBounds_toArray, List.set_cons_zero, List.set_cons_succ]
              refine wpAnyH_take (i := 15) (oi := ?tko251) (v := ?tkv251) ?tkh251 (by kernel_rfl) (by kernel_rfl) (by kernel_rfl) ?tkq251 ?tky251 hHeld ?tkr251
              case tkh251 => (simp only [List.getElem?_toArray, List.getElem?_cons_succ, List.getElem?_cons_zero]; rfl)
              case tkq251 => exact fun _ _ _ h => h
              case tky251 => exact Or.inl ⟨by rfl, by intro wSw hSw; (try dsimp only at hSw); go_simp; try with_reducible rfl⟩
              try simp only [Act.put, List.setIfInBounds_toArray, List.set_cons_zero, List.set_cons_succ]
              refine wpAnyH_take (i := 16) (oi := ?tko252) (v := ?tkv252) ?tkh252 (by kernel_rfl) (by kernel_rfl) (by kernel_rfl) ?tkq252 ?tky252 hHeld ?tkr252
              case tkh252 => (simp only [List.getElem?_toArray, List.getElem?_cons_succ, List.getElem?_cons_zero]; rfl)
              case tkq252 => exact fun _ _ _ h => h
              case tky252 => exact Or.inl ⟨by rfl, by intro wSw hSw; (try dsimp only at hSw); go_simp; try with_reducible rfl⟩
              try simp only [Act.put, List.setIfInBounds_toArray, List.set_cons_zero, List.set_cons_succ]
              refine wpAnyH_take (i := 17) (oi := ?tko253) (v := ?tkv253) ?tkh253 (by kernel_rfl) (by kernel_rfl) (by kernel_rfl) ?tkq253 ?tky253 hHeld ?tkr253
              case tkh253 => (simp only [List.getElem?_toArray, List.getElem?_cons_succ, List.getElem?_cons_zero]; rfl)
              case tkq253 => exact fun _ _ _ h => h
              case tky253 => exact Or.inl ⟨by rfl, by intro wSw hSw; (try dsimp only at hSw); go_simp; try with_reducible rfl⟩
              try simp only [Act.put, List.setIfInBounds_toArray, List.set_cons_zero, List.set_cons_succ]
              refine wpAnyH_take (i := 18) (oi := ?tko254) (v := ?tkv254) ?tkh254 (by kernel_rfl) (by kernel_rfl) (by kernel_rfl) ?tkq254 ?tky254 hHeld ?tkr254
              case tkh254 => (simp only [List.getElem?_toArray, List.getElem?_cons_succ, List.getElem?_cons_zero]; rfl)
              case tkq254 => exact fun _ _ _ h => h
              case tky254 => exact Or.inl ⟨by rfl, by intro wSw hSw; (try dsimp only at hSw); go_simp; try with_reducible rfl⟩
              try simp only [Act.put, List.setIfInBounds_toArray, List.set_cons_zero, List.set_cons_succ]
              refine wpAnyH_take (i := 19) (oi := ?tko255) (v := ?tkv255) ?tkh255 (by kernel_rfl) (by kernel_rfl) (by kernel_rfl) ?tkq255 ?tky255 hHeld ?tkr255
              case tkh255 => (simp only [List.getElem?_toArray, List.getElem?_cons_succ, List.getElem?_cons_zero]; rfl)
              case tkq255 => exact fun _ _ _ h => h
              case tky255 => exact Or.inl ⟨by rfl, by intro wSw hSw; (try dsimp only at hSw); go_simp; try with_reducible rfl⟩
              try simp only [Act.put, List.setIfInBounds_toArray, List.set_cons_zero, List.set_cons_succ]
              refine wpAnyH_take (i := 20) (oi := ?tko256) (v := ?tkv256) ?tkh256 (by kernel_rfl) (by kernel_rfl) (by kernel_rfl) ?tkq256 ?tky256 hHeld ?tkr256
              case tkh256 => (simp only [List.getElem?_toArray, List.getElem?_cons_succ, List.getElem?_cons_zero]; rfl)
              case tkq256 => exact fun _ _ _ h => h
              case tky256 => exact Or.inl ⟨by rfl, by intro wSw hSw; (try dsimp only at hSw); go_simp; try with_reducible rfl⟩
              try simp only [Act.put, List.setIfInBounds_toArray, List.set_cons_zero, List.set_cons_succ]
              refine wpAnyH_take (i := 21) (oi := ?tko257) (v := ?tkv257) ?tkh257 (by kernel_rfl) (by kernel_rfl) (by kernel_rfl) ?tkq257 ?tky257 hHeld ?tkr257
              case tkh257 => (simp only [List.getElem?_toArray, List.getElem?_cons_succ, List.getElem?_cons_zero]; rfl)
              case tkq257 => exact fun _ _ _ h => h
              case tky257 => exact Or.inl ⟨by rfl, by intro wSw hSw; (try dsimp only at hSw); go_simp; try with_reducible rfl⟩
              try simp only [Act.put, List.setIfInBounds_toArray, List.set_cons_zero, List.set_cons_succ]
              refine wpAnyH_take (i := 22) (oi := ?tko258) (v := ?tkv258) ?tkh258 (by kernel_rfl) (by kernel_rfl) (by kernel_rfl) ?tkq258 ?tky258 hHeld ?tkr258
              case tkh258 => (simp only [List.getElem?_toArray, List.getElem?_cons_succ, List.getElem?_cons_zero]; rfl)
              case tkq258 => exact fun _ _ _ h => h
              case tky258 => exact Or.inl ⟨by rfl, by intro wSw hSw; (try dsimp only at hSw); go_simp; try with_reducible rfl⟩
              try simp only [Act.put, List.setIfInBounds_toArray, List.set_cons_zero, List.set_cons_succ]
              refine wpAnyH_take (i := 23) (oi := ?tko259) (v := ?tkv259) ?tkh259 (by kernel_rfl) (by kernel_rfl) (by kernel_rfl) ?tkq259 ?tky259 hHeld ?tkr259
              case tkh259 => (simp only [List.getElem?_toArray, List.getElem?_cons_succ, List.getElem?_cons_zero]; rfl)
              case tkq259 => exact fun _ _ _ h => h
              case tky259 => exact Or.inl ⟨by rfl, by intro wSw hSw; (try dsimp only at hSw); go_simp; try with_reducible rfl⟩
              try simp only [Act.put, List.setIfInBounds_toArray, List.set_cons_zero, List.set_cons_succ]
              refine wpAnyH_take (i := 24) (oi := ?tko260) (v := ?tkv260) ?tkh260 (by kernel_rfl) (by kernel_rfl) (by kernel_rfl) ?tkq260 ?tky260 hHeld ?tkr260
              case tkh260 => (simp only [List.getElem?_toArray, List.getElem?_cons_succ, List.getElem?_cons_zero]; rfl)
              case tkq260 => exact fun _ _ _ h => h
              case tky260 => exact Or.inl ⟨by rfl, by intro wSw hSw; (try dsimp only at hSw); go_simp; try with_reducible rfl⟩
              try simp only [Act.put, List.setIfInBounds_toArray, List.set_cons_zero, List.set_cons_succ]
              refine wpAnyH_take (i := 25) (oi := ?tko261) (v := ?tkv261) ?tkh261 (by kernel_rfl) (by kernel_rfl) (by kernel_rfl) ?tkq261 ?tky261 hHeld ?tkr261
              case tkh261 => (simp only [List.getElem?_toArray, List.getElem?_cons_succ, List.getElem?_cons_zero]; rfl)
              case tkq261 => exact fun _ _ _ h => h
              case tky261 => exact Or.inl ⟨by rfl, by intro wSw hSw; (try dsimp only at hSw); go_simp; try with_reducible rfl⟩
              try simp only [Act.put, List.setIfInBounds_toArray, List.set_cons_zero, List.set_cons_succ]
              refine wpAnyH_take (i := 26) (oi := ?tko262) (v := ?tkv262) ?tkh262 (by kernel_rfl) (by kernel_rfl) (by kernel_rfl) ?tkq262 ?tky262 hHeld ?tkr262
              case tkh262 => (simp only [List.getElem?_toArray, List.getElem?_cons_succ, List.getElem?_cons_zero]; rfl)
              case tkq262 => exact fun _ _ _ h => h
              case tky262 => exact Or.inl ⟨by rfl, by intro wSw hSw; (try dsimp only at hSw); go_simp; try with_reducible rfl⟩
              try simp only [Act.put, List.setIfInBounds_toArray, List.set_cons_zero, List.set_cons_succ]
              refine Skips.skips (by kernel_rfl) (fun _ _ _ _ _ h => h) hHeld [27, 28, 29] _ 23 _ _ (by kernel_rfl) ?tkk263 ?tkr263
              case tkk263 => kernel_rfl
              simp only [Skips.skipAct, Skips.skipListed, List.getElem?_toArray, List.getElem?_cons_succ, List.getElem?_cons_zero, Act.put, List.setIfInBounds_toArray, List.set_cons_zero, List.set_cons_succ]
              refine wpAnyH_take (i := 30) (oi := ?tko264) (v := ?tkv264) ?tkh264 (by kernel_rfl) (by kernel_rfl) (by kernel_rfl) ?tkq264 ?tky264 hHeld ?tkr264
              case tkh264 => (simp only [List.getElem?_toArray, List.getElem?_cons_succ, List.getElem?_cons_zero]; rfl)
              case tkq264 => exact fun _ _ _ h => h
              case tky264 => exact Or.inl ⟨by rfl, by intro wSw hSw; (try dsimp only at hSw); go_simp; try with_reducible rfl⟩
              try simp only [Act.put, List.setIfInBounds_toArray, List.set_cons_zero, List.set_cons_succ]
              refine wpAnyH_take (i := 31) (oi := ?tko265) (v := ?tkv265) ?tkh265 (by kernel_rfl) (by kernel_rfl) (by kernel_rfl) ?tkq265 ?tky265 hHeld ?tkr265
              case tkh265 => (simp only [List.getElem?_toArray, List.getElem?_cons_succ, List.getElem?_cons_zero]; rfl)
              case tkq265 => exact fun _ _ _ h => h
              case tky265 => exact Or.inl ⟨by rfl, by intro wSw hSw; (try dsimp only at hSw); go_simp; try with_reducible rfl⟩
              try simp only [Act.put, List.setIfInBounds_toArray, List.set_cons_zero, List.set_cons_succ]
              refine Skips.skips (by kernel_rfl) (fun _ _ _ _ _ h => h) hHeld [32, 33, 34, 35, 36, 37, 38, 39, 40, 41, 42, 43, 44, 45, 46, 47, 48, 49, 50] _ 2 _ _ (by kernel_rfl) ?tkk266 ?tkr266
              case tkk266 => kernel_rfl
              simp only [Skips.skipAct, Skips.skipListed, List.getElem?_toArray, List.getElem?_cons_succ, List.getElem?_cons_zero, Act.put, List.setIfInBounds_toArray, List.set_cons_zero, List.set_cons_succ]
              refine wpAnyH_take (i := 51) (oi := ?tko267) (v := ?tkv267) ?tkh267 (by kernel_rfl) (by kernel_rfl) (by kernel_rfl) ?tkq267 ?tky267 hHeld ?tkr267
              case tkh267 => (simp only [List.getElem?_toArray, List.getElem?_cons_succ, List.getElem?_cons_zero]; rfl)
              case tkq267 => exact fun _ _ _ h => h
              case tky267 => exact Or.inl ⟨by rfl, by intro wSw hSw; (try dsimp only at hSw); go_simp; try with_reducible rfl⟩
              try simp only [Act.put, List.setIfInBounds_toArray, List.set_cons_zero, List.set_cons_succ]
              refine wpAnyH_take (i := 52) (oi := ?tko268) (v := ?tkv268) ?tkh268 (by kernel_rfl) (by kernel_rfl) (by kernel_rfl) ?tkq268 ?tky268 hHeld ?tkr268
              case tkh268 => (simp only [List.getElem?_toArray, List.getElem?_cons_succ, List.getElem?_cons_zero]; rfl)
              case tkq268 => exact fun _ _ _ h => h
              case tky268 => exact Or.inl ⟨by rfl, by intro wSw hSw; (try dsimp only at hSw); go_simp; try with_reducible rfl⟩
              try simp only [Act.put, List.setIfInBounds_toArray, List.set_cons_zero, List.set_cons_succ]
              refine wpAnyH_done (by kernel_rfl) ?_ _
              clear hHeld
              go_wp2_with fail
              go_roundw
              case rel => exact ⟨q + 1, by simp, by omega, HBD.out⟩
              case measure => (show N - (q + 1) < N - q; omega)
            have c3n : decide (I ≤ q) = true := decide_eq_true (by omega)
            have c3i : decide (((I : Nat) : Int) ≤ ((q : Nat) : Int)) = true := decide_eq_true (by omega)
            by_cases hc4 : q < k
            rotate_left
            · have c4n : decide (q < k) = false := decide_eq_false (by omega)
              have c4i : decide (((q : Nat) : Int) < ((k : Nat) : Int)) = false := decide_eq_false (by omega)
              refine wp_region_held_drew (S := fun W => W.cell? ⟨B, p, none⟩ = some (.slice (some ⟨R p, 0, none⟩) N N) ∧ W.cell? ⟨R p, q, none⟩ = some (.bool false)) (by kernel_rfl) HO.out (fun hHeld => ?_)
              refine wpAnyH_take (i := 0) (oi := ?tko269) (v := ?tkv269) ?tkh269 (by kernel_rfl) (by kernel_rfl) (by kernel_rfl) ?tkq269 ?tky269 hHeld ?tkr269
              case tkh269 => (simp only [List.getElem?_toArray, List.getElem?_cons_zero]; rfl)
              case tkq269 => exact fun _ _ _ h => h
              case tky269 => exact Or.inl ⟨by rfl, by intro wSw hSw; (try dsimp only at hSw); go_simp; try with_reducible rfl⟩
              try simp only [Act.put, List.setIfInBounds_toArray, List.set_cons_zero, List.set_cons_succ]
              refine wpAnyH_take (i := 1) (oi := ?tko270) (v := ?tkv270) ?tkh270 (by kernel_rfl) (by kernel_rfl) (by kernel_rfl) ?tkq270 ?tky270 hHeld ?tkr270
              case tkh270 => (simp only [List.getElem?_toArray, List.getElem?_cons_succ, List.getElem?_cons_zero]; rfl)
              case tkq270 => exact fun _ _ _ h => h
              case tky270 => exact Or.inl ⟨by rfl, by intro wSw hSw; (try dsimp only at hSw); go_simp; try with_reducible rfl⟩
              try simp only [Act.put, List.setIfInBounds_toArray, List.set_cons_zero, List.set_cons_succ]
              refine wpAnyH_take (i := 2) (oi := ?tko271) (v := ?tkv271) ?tkh271 (by kernel_rfl) (by kernel_rfl) (by kernel_rfl) ?tkq271 ?tky271 hHeld ?tkr271
              case tkh271 => (simp only [List.getElem?_toArray, List.getElem?_cons_succ, List.getElem?_cons_zero]; rfl)
              case tkq271 => exact fun _ _ _ h => h
              case tky271 => exact Or.inl ⟨by rfl, by intro wSw hSw; (try dsimp only at hSw); go_simp; try with_reducible rfl⟩
              try simp only [Act.put, List.setIfInBounds_toArray, List.set_cons_zero, List.set_cons_succ]
              refine wpAnyH_take (i := 3) (oi := ?tko272) (v := ?tkv272) ?tkh272 (by kernel_rfl) (by kernel_rfl) (by kernel_rfl) ?tkq272 ?tky272 hHeld ?tkr272
              case tkh272 => (simp only [List.getElem?_toArray, List.getElem?_cons_succ, List.getElem?_cons_zero]; rfl)
              case tkq272 => exact fun _ _ _ h => h
              case tky272 => exact Or.inl ⟨by rfl, by intro wSw hSw; (try dsimp only at hSw); go_simp; try with_reducible rfl⟩
              try simp only [Act.put, List.setIfInBounds_toArray, List.set_cons_zero, List.set_cons_succ]
              refine wpAnyH_take (i := 4) (oi := ?tko273) (v := ?tkv273) ?tkh273 (by kernel_rfl) (by kernel_rfl) (by kernel_rfl) ?tkq273 ?tky273 hHeld ?tkr273
              case tkh273 => (simp only [List.getElem?_toArray, List.getElem?_cons_succ, List.getElem?_cons_zero]; rfl)
              case tkq273 => exact fun _ _ _ h => h
              case tky273 => exact Or.inl ⟨by rfl, by intro wSw hSw; (try dsimp only at hSw); go_simp; try with_reducible rfl⟩
              try simp only [Act.put, List.setIfInBounds_toArray, List.set_cons_zero, List.set_cons_succ]
              refine wpAnyH_take (i := 5) (oi := ?tko274) (v := ?tkv274) ?tkh274 (by kernel_rfl) (by kernel_rfl) (by kernel_rfl) ?tkq274 ?tky274 hHeld ?tkr274
              case tkh274 => (simp only [List.getElem?_toArray, List.getElem?_cons_succ, List.getElem?_cons_zero]; rfl)
              case tkq274 => exact fun _ _ _ h => h
              case tky274 => exact Or.inl ⟨by rfl, by intro wSw hSw; (try dsimp only at hSw); go_simp; try with_reducible rfl⟩
              try simp only [Act.put, List.setIfInBounds_toArray, List.set_cons_zero, List.set_cons_succ]
              refine wpAnyH_take (i := 6) (oi := ?tko275) (v := ?tkv275) ?tkh275 (by kernel_rfl) (by kernel_rfl) (by kernel_rfl) ?tkq275 ?tky275 hHeld ?tkr275
              case tkh275 => (simp only [List.getElem?_toArray, List.getElem?_cons_succ, List.getElem?_cons_zero]; rfl)
              case tkq275 => exact fun _ _ _ h => h
              case tky275 => exact Or.inl ⟨by rfl, by intro wSw hSw; (try dsimp only at hSw); go_simp; try with_reducible rfl⟩
              try simp only [Act.put, List.setIfInBounds_toArray, List.set_cons_zero, List.set_cons_succ]
              refine wpAnyH_take (i := 7) (oi := ?tko276) (v := ?tkv276) ?tkh276 (by kernel_rfl) (by kernel_rfl) (by kernel_rfl) ?tkq276 ?tky276 hHeld ?tkr276
              case tkh276 => (simp only [List.getElem?_toArray, List.getElem?_cons_succ, List.getElem?_cons_zero]; rfl)
              case tkq276 => exact fun _ _ _ h => h
              case tky276 => exact Or.inl ⟨by rfl, by intro wSw hSw; (try dsimp only at hSw); go_simp; try with_reducible rfl⟩
              try simp only [Act.put, List.setIfInBounds_toArray, List.set_cons_zero, List.set_cons_succ]
              refine Skips.skips (by kernel_rfl) (fun _ _ _ _ _ h => h) hHeld [8, 9, 10] _ 42 _ _ (by kernel_rfl) ?tkk277 ?tkr277
              case tkk277 => kernel_rfl
              simp only [Skips.skipAct, Skips.skipListed, List.getElem?_toArray, List.getElem?_cons_succ, List.getElem?_cons_zero, Act.put, List.setIfInBounds_toArray, List.set_cons_zero, List.set_cons_succ]
              refine wpAnyH_take (i := 11) (oi := ?tko278) (v := ?tkv278) ?tkh278 (by kernel_rfl) (by kernel_rfl) (by kernel_rfl) ?tkq278 ?tky278 hHeld ?tkr278
              case tkh278 => (simp only [List.getElem?_toArray, List.getElem?_cons_succ, List.getElem?_cons_zero]; rfl)
              case tkq278 => exact fun _ _ _ h => h
              case tky278 => exact Or.inl ⟨by rfl, by intro wSw hSw; (try dsimp only at hSw); go_simp; try with_reducible rfl⟩
              try simp only [Act.put, List.setIfInBounds_toArray, List.set_cons_zero, List.set_cons_succ]
              refine wpAnyH_take (i := 12) (oi := ?tko279) (v := ?tkv279) ?tkh279 (by kernel_rfl) (by kernel_rfl) (by kernel_rfl) ?tkq279 ?tky279 hHeld ?tkr279
              case tkh279 => (simp only [List.getElem?_toArray, List.getElem?_cons_succ, List.getElem?_cons_zero]; rfl)
              case tkq279 => exact fun _ _ _ h => h
              case tky279 => exact Or.inl ⟨by rfl, by intro wSw hSw; (try dsimp only at hSw); go_simp; try with_reducible rfl⟩
              try simp only [Act.put, List.setIfInBounds_toArray, List.set_cons_zero, List.set_cons_succ]
              refine wpAnyH_take (i := 13) (oi := ?tko280) (v := ?tkv280) ?tkh280 (by kernel_rfl) (by kernel_rfl) (by kernel_rfl) ?tkq280 ?tky280 hHeld ?tkr280
              case tkh280 => (simp only [List.getElem?_toArray, List.getElem?_cons_succ, List.getElem?_cons_zero]; rfl)
              case tkq280 => exact fun _ _ _ h => h
              case tky280 => exact Or.inl ⟨by rfl, by intro wSw hSw; (try dsimp only at hSw); go_simp; try with_reducible rfl⟩
              try simp only [Act.put, List.setIfInBounds_toArray, List.set_cons_zero, List.set_cons_succ]
              refine wpAnyH_take (i := 14) (oi := ?tko281) (v := ?tkv281) ?tkh281 (by kernel_rfl) (by kernel_rfl) (by kernel_rfl) ?tkq281 ?tky281 hHeld ?tkr281
              case tkh281 => (simp only [List.getElem?_toArray, List.getElem?_cons_succ, List.getElem?_cons_zero]; rfl)
              case tkq281 => exact fun _ _ _ h => h
              case tky281 => exact Or.inl ⟨by rfl, by intro wSw hSw; (try dsimp only at hSw); go_simp; try with_reducible rfl⟩
              try simp only [Act.put, List.setIfInBounds_toArray, List.set_cons_zero, List.set_cons_succ]
              refine wpAnyH_take (i := 15) (oi := ?tko282) (v := ?tkv282) ?tkh282 (by kernel_rfl) (by kernel_rfl) (by kernel_rfl) ?tkq282 ?tky282 hHeld ?tkr282
              case tkh282 => (simp only [List.getElem?_toArray, List.getElem?_cons_succ, List.getElem?_cons_zero]; rfl)
              case tkq282 => exact fun _ _ _ h => h
              case tky282 => exact Or.inl ⟨by rfl, by intro wSw hSw; (try dsimp only at hSw); go_simp; try with_reducible rfl⟩
              try simp only [Act.put, List.setIfInBounds_toArray, List.set_cons_zero, List.set_cons_succ]
              refine wpAnyH_take (i := 16) (oi := ?tko283) (v := ?tkv283) ?tkh283 (by kernel_rfl) (by kernel_rfl) (by kernel_rfl) ?tkq283 ?tky283 hHeld ?tkr283
              case tkh283 => (simp only [List.getElem?_toArray, List.getElem?_cons_succ, List.getElem?_cons_zero]; rfl)
              case tkq283 => exact fun _ _ _ h => h
              case tky283 => exact Or.inl ⟨by rfl, by intro wSw hSw; (try dsimp only at hSw); go_simp; try with_reducible rfl⟩
              try simp only [Act.put, List.setIfInBounds_toArray, List.set_cons_zero, List.set_cons_succ]
              refine wpAnyH_take (i := 17) (oi := ?tko284) (v := ?tkv284) ?tkh284 (by kernel_rfl) (by kernel_rfl) (by kernel_rfl) ?tkq284 ?tky284 hHeld ?tkr284
              case tkh284 => (simp only [List.getElem?_toArray, List.getElem?_cons_succ, List.getElem?_cons_zero]; rfl)
              case tkq284 => exact fun _ _ _ h => h
              case tky284 => exact Or.inl ⟨by rfl, by intro wSw hSw; (try dsimp only at hSw); go_simp; try with_reducible rfl⟩
              try simp only [Act.put, List.setIfInBounds_toArray, List.set_cons_zero, List.set_cons_succ]
              refine wpAnyH_take (i := 18) (oi := ?tko285) (v := ?tkv285) ?tkh285 (by kernel_rfl) (by kernel_rfl) (by kernel_rfl) ?tkq285 ?tky285 hHeld ?tkr285
              case tkh285 => (simp only [List.getElem?_toArray, List.getElem?_cons_succ, List.getElem?_cons_zero]; rfl)
              case tkq285 => exact fun _ _ _ h => h
              case tky285 => exact Or.inl ⟨by rfl, by intro wSw hSw; (try dsimp only at hSw); go_simp; try with_reducible rfl⟩
              try simp only [Act.put, List.setIfInBounds_toArray, List.set_cons_zero, List.set_cons_succ]
              refine wpAnyH_take (i := 19) (oi := ?tko286) (v := ?tkv286) ?tkh286 (by kernel_rfl) (by kernel_rfl) (by kernel_rfl) ?tkq286 ?tky286 hHeld ?tkr286
              case tkh286 => (simp only [List.getElem?_toArray, List.getElem?_cons_succ, List.getElem?_cons_zero]; rfl)
              case tkq286 => exact fun _ _ _ h => h
              case tky286 => exact Or.inl ⟨by rfl, by intro wSw hSw; (try dsimp only at hSw); go_simp; try with_reducible rfl⟩
              try simp only [Act.put, List.setIfInBounds_toArray, List.set_cons_zero, List.set_cons_succ]
              refine wpAnyH_take (i := 20) (oi := ?tko287) (v := ?tkv287) ?tkh287 (by kernel_rfl) (by kernel_rfl) (by kernel_rfl) ?tkq287 ?tky287 hHeld ?tkr287
              case tkh287 => (simp only [List.getElem?_toArray, List.getElem?_cons_succ, List.getElem?_cons_zero]; rfl)
              case tkq287 => exact fun _ _ _ h => h
              case tky287 => exact Or.inl ⟨by rfl, by intro wSw hSw; (try dsimp only at hSw); go_simp; try with_reducible rfl⟩
              try simp only [Act.put, List.setIfInBounds_toArray, List.set_cons_zero, List.set_cons_succ]
              refine wpAnyH_take (i := 21) (oi := ?tko288) (v := ?tkv288) ?tkh288 (by kernel_rfl) (by kernel_rfl) (by kernel_rfl) ?tkq288 ?tky288 hHeld ?tkr288
              case tkh288 => (simp only [List.getElem?_toArray, List.getElem?_cons_succ, List.getElem?_cons_zero]; rfl)
              case tkq288 => exact fun _ _ _ h => h
              case tky288 => exact Or.inl ⟨by rfl, by intro wSw hSw; (try dsimp only at hSw); go_simp; try with_reducible rfl⟩
              try simp only [Act.put, List.setIfInBounds_toArray, List.set_cons_zero, List.set_cons_succ]
              refine wpAnyH_take (i := 22) (oi := ?tko289) (v := ?tkv289) ?tkh289 (by kernel_rfl) (by kernel_rfl) (by kernel_rfl) ?tkq289 ?tky289 hHeld ?tkr289
              case tkh289 => (simp only [List.getElem?_toArray, List.getElem?_cons_succ, List.getElem?_cons_zero]; rfl)
              case tkq289 => exact fun _ _ _ h => h
              case tky289 => exact Or.inl ⟨by rfl, by intro wSw hSw; (try dsimp only at hSw); go_simp; try with_reducible rfl⟩
              try simp only [Act.put, List.setIfInBounds_toArray, List.set_cons_zero, List.set_cons_succ]
              refine wpAnyH_take (i := 23) (oi := ?tko290) (v := ?tkv290) ?tkh290 (by kernel_rfl) (by kernel_rfl) (by kernel_rfl) ?tkq290 ?tky290 hHeld ?tkr290
              case tkh290 => (simp only [List.getElem?_toArray, List.getElem?_cons_succ, List.getElem?_cons_zero]; rfl)
              case tkq290 => exact fun _ _ _ h => h
              case tky290 => exact Or.inl ⟨by rfl, by intro wSw hSw; (try dsimp only at hSw); go_simp; try with_reducible rfl⟩
              try simp only [Act.put, List.setIfInBounds_toArray, List.set_cons_zero, List.set_cons_succ]
              refine wpAnyH_take (i := 24) (oi := ?tko291) (v := ?tkv291) ?tkh291 (by kernel_rfl) (by kernel_rfl) (by kernel_rfl) ?tkq291 ?tky291 hHeld ?tkr291
              case tkh291 => (simp only [List.getElem?_toArray, List.getElem?_cons_succ, List.getElem?_cons_zero]; rfl)
              case tkq291 => exact fun _ _ _ h => h
              case tky291 => exact Or.inl ⟨by rfl, by intro wSw hSw; (try dsimp only at hSw); go_simp; try with_reducible rfl⟩
              try simp only [Act.put, List.setIfInBounds_toArray, List.set_cons_zero, List.set_cons_succ]
              refine wpAnyH_take (i := 25) (oi := ?tko292) (v := ?tkv292) ?tkh292 (by kernel_rfl) (by kernel_rfl) (by kernel_rfl) ?tkq292 ?tky292 hHeld ?tkr292
              case tkh292 => (simp only [List.getElem?_toArray, List.getElem?_cons_succ, List.getElem?_cons_zero]; rfl)
              case tkq292 => exact fun _ _ _ h => h
              case tky292 => exact Or.inl ⟨by rfl, by intro wSw hSw; (try dsimp only at hSw); go_simp; try with_reducible rfl⟩
              try simp only [Act.put, List.setIfInBounds_toArray, List.set_cons_zero, List.set_cons_succ]
              refine wpAnyH_take (i := 26) (oi := ?tko293) (v := ?tkv293) ?tkh293 (by kernel_rfl) (by kernel_rfl) (by kernel_rfl) ?tkq293 ?tky293 hHeld ?tkr293
              case tkh293 => (simp only [List.getElem?_toArray, List.getElem?_cons_succ, List.getElem?_cons_zero]; rfl)
              case tkq293 => exact fun _ _ _ h => h
              case tky293 => exact Or.inl ⟨by rfl, by intro wSw hSw; (try dsimp only at hSw); go_simp; try with_reducible rfl⟩
              try simp only [Act.put, List.setIfInBounds_toArray, List.set_cons_zero, List.set_cons_succ]
              refine wpAnyH_take (i := 27) (oi := ?tko294) (v := ?tkv294) ?tkh294 (by kernel_rfl) (by kernel_rfl) (by kernel_rfl) ?tkq294 ?tky294 hHeld ?tkr294
              case tkh294 => (simp only [List.getElem?_toArray, List.getElem?_cons_succ, List.getElem?_cons_zero]; rfl)
              case tkq294 => exact fun _ _ _ h => h
              case tky294 => exact Or.inl ⟨by rfl, by intro wSw hSw; (try dsimp only at hSw); go_simp; try with_reducible rfl⟩
              try simp only [Act.put, List.setIfInBounds_toArray, List.set_cons_zero, List.set_cons_succ]
              refine wpAnyH_take (i := 28) (oi := ?tko295) (v := ?tkv295) ?tkh295 (by kernel_rfl) (by kernel_rfl) (by kernel_rfl) ?tkq295 ?tky295 hHeld ?tkr295
              case tkh295 => (simp only [List.getElem?_toArray, List.getElem?_cons_succ, List.getElem?_cons_zero]; rfl)
              case tkq295 => exact fun _ _ _ h => h
              case tky295 => exact Or.inl ⟨by rfl, by intro wSw hSw; (try dsimp only at hSw); go_simp; try with_reducible rfl⟩
              try simp only [Act.put, List.setIfInBounds_toArray, List.set_cons_zero, List.set_cons_succ]
              refine wpAnyH_take (i := 29) (oi := ?tko296) (v := ?tkv296) ?tkh296 (by kernel_rfl) (by kernel_rfl) (by kernel_rfl) ?tkq296 ?tky296 hHeld ?tkr296
              case tkh296 => (simp only [List.getElem?_toArray, List.getElem?_cons_succ, List.getElem?_cons_zero]; rfl)
              case tkq296 => exact fun _ _ _ h => h
              case tky296 => exact Or.inl ⟨by rfl, by intro wSw hSw; (try dsimp only at hSw); go_simp; try with_reducible rfl⟩
              try simp only [Act.put, List.setIfInBounds_toArray, List.set_cons_zero, List.set_cons_succ]
              refine wpAnyH_take (i := 30) (oi := ?tko297) (v := ?tkv297) ?tkh297 (by kernel_rfl) (by kernel_rfl) (by kernel_rfl) ?tkq297 ?tky297 hHeld ?tkr297
              case tkh297 => (simp only [List.getElem?_toArray, List.getElem?_cons_succ, List.getElem?_cons_zero]; rfl)
              case tkq297 => exact fun _ _ _ h => h
              case tky297 => exact Or.inl ⟨by rfl, by intro wSw hSw; (try dsimp only at hSw); go_simp; try with_reducible rfl⟩
              try simp only [Act.put, List.setIfInBounds_toArray, List.set_cons_zero, List.set_cons_succ]
              refine wpAnyH_take (i := 31) (oi := ?tko298) (v := ?tkv298) ?tkh298 (by kernel_rfl) (by kernel_rfl) (by kernel_rfl) ?tkq298 ?tky298 hHeld ?tkr298
              case tkh298 => (simp only [List.getElem?_toArray, List.getElem?_cons_succ, List.getElem?_cons_zero]; rfl)
              case tkq298 => exact fun _ _ _ h => h
              case tky298 => exact Or.inl ⟨by rfl, by intro wSw hSw; (try dsimp only at hSw); go_simp; try with_reducible rfl⟩
              try simp only [Act.put, List.setIfInBounds_toArray, List.set_cons_zero, List.set_cons_succ]
              refine Skips.skips (by kernel_rfl) (fun _ _ _ _ _ h => h) hHeld [32, 33, 34, 35, 36, 37, 38, 39, 40, 41, 42, 43, 44, 45, 46, 47, 48, 49, 50] _ 2 _ _ (by kernel_rfl) ?tkk299 ?tkr299
              case tkk299 => kernel_rfl
              simp only [Skips.skipAct, Skips.skipListed, List.getElem?_toArray, List.getElem?_cons_succ, List.getElem?_cons_zero, Act.put, List.setIfInBounds_toArray, List.set_cons_zero, List.set_cons_succ]
              refine wpAnyH_take (i := 51) (oi := ?tko300) (v := ?tkv300) ?tkh300 (by kernel_rfl) (by kernel_rfl) (by kernel_rfl) ?tkq300 ?tky300 hHeld ?tkr300
              case tkh300 => (simp only [List.getElem?_toArray, List.getElem?_cons_succ, List.getElem?_cons_zero]; rfl)
              case tkq300 => exact fun _ _ _ h => h
              case tky300 => exact Or.inl ⟨by rfl, by intro wSw hSw; (try dsimp only at hSw); go_simp; try with_reducible rfl⟩
              try simp only [Act.put, List.setIfInBounds_toArray, List.set_cons_zero, List.set_cons_succ]
              refine wpAnyH_take (i := 52) (oi := ?tko301) (v := ?tkv301) ?tkh301 (by kernel_rfl) (by kernel_rfl) (by kernel_rfl) ?tkq301 ?tky301 hHeld ?tkr301
              case tkh301 => (simp only [List.getElem?_toArray, List.getElem?_cons_succ, List.getElem?_cons_zero]; rfl)
              case tkq301 => exact fun _ _ _ h => h
              case tky301 => exact Or.inl ⟨by rfl, by intro wSw hSw; (try dsimp only at hSw); go_simp; try with_reducible rfl⟩
              try simp only [Act.put, List.setIfInBounds_toArray, List.set_cons_zero, List.set_cons_succ]
              refine wpAnyH_done (by kernel_rfl) ?_ _
              clear hHeld
              go_wp2_with fail
              go_roundw
              case rel => exact ⟨q + 1, by simp, by omega, HBD.out⟩
              case measure => (show N - (q + 1) < N - q; omega)
            have c4n : decide (q < k) = true := decide_eq_true (by omega)
            have c4i : decide (((q : Nat) : Int) < ((k : Nat) : Int)) = true := decide_eq_true (by omega)
            obtain ⟨pa, hpa⟩ : ∃ pa, p - I = pa := ⟨_, rfl⟩
            obtain ⟨qa, hqa⟩ : ∃ qa, q - I = qa := ⟨_, rfl⟩
            have HC := Lib.hid (HCUT.out ⟨hc1, hc2⟩ ⟨hc3, hc4⟩)
            rw [hpa, hqa] at HC
            have hpa1 : ((p : Nat) : Int) - ((I : Nat) : Int) = ((pa : Nat) : Int) := by omega
            have hqa1 : ((q : Nat) : Int) - ((I : Nat) : Int) = ((qa : Nat) : Int) := by omega
            have hpa2 : IntKind.i64.wrap ((pa : Nat) : Int) = ((pa : Nat) : Int) := by rw [IntKind.wrap_i64]; omega
            have hqa2 : IntKind.i64.wrap ((qa : Nat) : Int) = ((qa : Nat) : Int) := by rw [IntKind.wrap_i64]; omega
            have hpaJ : pa < J := by omega
            have hqaJ : qa < J := by omega
            have hpaJi : ((pa : Nat) : Int) < ((J : Nat) : Int) := by omega
            have hqaJi : ((qa : Nat) : Int) < ((J : Nat) : Int) := by omega
            clear hpa hqa
            refine wp_region_held_drew (S := fun W => W.cell? ⟨B, p, none⟩ = some (.slice (some ⟨R p, 0, none⟩) N N) ∧ W.cell? ⟨R p, q, none⟩ = some (.bool false) ∧ W.cell? ⟨B2, pa, none⟩ = some (.slice (some ⟨R2 pa, 0, none⟩) J J) ∧ W.cell? ⟨R2 pa, qa, none⟩ = some (.bool false)) (by kernel_rfl) ⟨HO.out.1, HO.out.2, HC.out.1, HC.out.2⟩ (fun hHeld => ?_)
            refine wpAnyH_take (i := 0) (oi := ?tko302) (v := ?tkv302) ?tkh302 (by kernel_rfl) (by kernel_rfl) (by kernel_rfl) ?tkq302 ?tky302 hHeld ?tkr302
            case tkh302 => (simp only [List.getElem?_toArray, List.getElem?_cons_zero]; rfl)
            case tkq302 => exact fun _ _ _ h => h
            case tky302 => exact Or.inl ⟨by rfl, by intro wSw hSw; (try dsimp only at hSw); go_simp; try with_reducible rfl⟩
            try simp only [Act.put, List.setIfInBounds_toArray, List.set_cons_zero, List.set_cons_succ]
            refine wpAnyH_take (i := 1) (oi := ?tko303) (v := ?tkv303) ?tkh303 (by kernel_rfl) (by kernel_rfl) (by kernel_rfl) ?tkq303 ?tky303 hHeld ?tkr303
            case tkh303 => (simp only [List.getElem?_toArray, List.getElem?_cons_succ, List.getElem?_cons_zero]; rfl)
            case tkq303 => exact fun _ _ _ h => h
            case tky303 => exact Or.inl ⟨by rfl, by intro wSw hSw; (try dsimp only at hSw); go_simp; try with_reducible rfl⟩
            try simp only [Act.put, List.setIfInBounds_toArray, List.set_cons_zero, List.set_cons_succ]
            refine wpAnyH_take (i := 2) (oi := ?tko304) (v := ?tkv304) ?tkh304 (by kernel_rfl) (by kernel_rfl) (by kernel_rfl) ?tkq304 ?tky304 hHeld ?tkr304
            case tkh304 => (simp only [List.getElem?_toArray, List.getElem?_cons_succ, List.getElem?_cons_zero]; rfl)
            case tkq304 => exact fun _ _ _ h => h
            case tky304 => exact Or.inl ⟨by rfl, by intro wSw hSw; (try dsimp only at hSw); go_simp; try with_reducible rfl⟩
            try simp only [Act.put, List.setIfInBounds_toArray, List.set_cons_zero, List.set_cons_succ]
            refine wpAnyH_take (i := 3) (oi := ?tko305) (v := ?tkv305) ?tkh305 (by kernel_rfl) (by kernel_rfl) (by kernel_rfl) ?tkq305 ?tky305 hHeld ?tkr305
            case tkh305 => (simp only [List.getElem?_toArray, List.getElem?_cons_succ, List.getElem?_cons_zero]; rfl)
            case tkq305 => exact fun _ _ _ h => h
            case tky305 => exact Or.inl ⟨by rfl, by intro wSw hSw; (try dsimp only at hSw); go_simp; try with_reducible rfl⟩
            try simp only [Act.put, List.setIfInBounds_toArray, List.set_cons_zero, List.set_cons_succ]
            refine wpAnyH_take (i := 4) (oi := ?tko306) (v := ?tkv306) ?tkh306 (by kernel_rfl) (by kernel_rfl) (by kernel_rfl) ?tkq306 ?tky306 hHeld ?tkr306
            case tkh306 => (simp only [List.getElem?_toArray, List.getElem?_cons_succ, List.getElem?_cons_zero]; rfl)
            case tkq306 => exact fun _ _ _ h => h
            case tky306 => exact Or.inl ⟨by rfl, by intro wSw hSw; (try dsimp only at hSw); go_simp; try with_reducible rfl⟩
            try simp only [Act.put, List.setIfInBounds_toArray, List.set_cons_zero, List.set_cons_succ]
            refine wpAnyH_take (i := 5) (oi := ?tko307) (v := ?tkv307) ?tkh307 (by kernel_rfl) (by kernel_rfl) (by kernel_rfl) ?tkq307 ?tky307 hHeld ?tkr307
            case tkh307 => (simp only [List.getElem?_toArray, List.getElem?_cons_succ, List.getElem?_cons_zero]; rfl)
            case tkq307 => exact fun _ _ _ h => h
            case tky307 => exact Or.inl ⟨by rfl, by intro wSw hSw; (try dsimp only at hSw); go_simp; try with_reducible rfl⟩
            try simp only [Act.put, List.setIfInBounds_toArray, List.set_cons_zero, List.set_cons_succ]
            refine wpAnyH_take (i := 6) (oi := ?tko308) (v := ?tkv308) ?tkh308 (by kernel_rfl) (by kernel_rfl) (by kernel_rfl) ?tkq308 ?tky308 hHeld ?tkr308
            case tkh308 => (simp only [List.getElem?_toArray, List.getElem?_cons_succ, List.getElem?_cons_zero]; rfl)
            case tkq308 => exact fun _ _ _ h => h
            case tky308 => exact Or.inl ⟨by rfl, by intro wSw hSw; (try dsimp only at hSw); go_simp; try with_reducible rfl⟩
            try simp only [Act.put, List.setIfInBounds_toArray, List.set_cons_zero, List.set_cons_succ]
            refine wpAnyH_take (i := 7) (oi := ?tko309) (v := ?tkv309) ?tkh309 (by kernel_rfl) (by kernel_rfl) (by kernel_rfl) ?tkq309 ?tky309 hHeld ?tkr309
            case tkh309 => (simp only [List.getElem?_toArray, List.getElem?_cons_succ, List.getElem?_cons_zero]; rfl)
            case tkq309 => exact fun _ _ _ h => h
            case tky309 => exact Or.inl ⟨by rfl, by intro wSw hSw; (try dsimp only at hSw); go_simp; try with_reducible rfl⟩
            try simp only [Act.put, List.setIfInBounds_toArray, List.set_cons_zero, List.set_cons_succ]
            refine Skips.skips (by kernel_rfl) (fun _ _ _ _ _ h => h) hHeld [8, 9, 10] _ 42 _ _ (by kernel_rfl) ?tkk310 ?tkr310
            case tkk310 => kernel_rfl
            simp only [Skips.skipAct, Skips.skipListed, List.getElem?_toArray, List.getElem?_cons_succ, List.getElem?_cons_zero, Act.put, List.setIfInBounds_toArray, List.set_cons_zero, List.set_cons_succ]
            refine wpAnyH_take (i := 11) (oi := ?tko311) (v := ?tkv311) ?tkh311 (by kernel_rfl) (by kernel_rfl) (by kernel_rfl) ?tkq311 ?tky311 hHeld ?tkr311
            case tkh311 => (simp only [List.getElem?_toArray, List.getElem?_cons_succ, List.getElem?_cons_zero]; rfl)
            case tkq311 => exact fun _ _ _ h => h
            case tky311 => exact Or.inl ⟨by rfl, by intro wSw hSw; (try dsimp only at hSw); go_simp; try with_reducible rfl⟩
            try simp only [Act.put, List.setIfInBounds_toArray, List.set_cons_zero, List.set_cons_succ]
            refine wpAnyH_take (i := 12) (oi := ?tko312) (v := ?tkv312) ?tkh312 (by kernel_rfl) (by kernel_rfl) (by kernel_rfl) ?tkq312 ?tky312 hHeld ?tkr312
            case tkh312 => (simp only [List.getElem?_toArray, List.getElem?_cons_succ, List.getElem?_cons_zero]; rfl)
            case tkq312 => exact fun _ _ _ h => h
            case tky312 => exact Or.inl ⟨by rfl, by intro wSw hSw; (try dsimp only at hSw); go_simp; try with_reducible rfl⟩
            try simp only [Act.put, List.setIfInBounds_toArray, List.set_cons_zero, List.set_cons_succ]
            refine wpAnyH_take (i := 13) (oi := ?tko313) (v := ?tkv313) ?tkh313 (by kernel_rfl) (by kernel_rfl) (by kernel_rfl) ?tkq313 ?tky313 hHeld ?tkr313
            case tkh313 => (simp only [List.getElem?_toArray, List.getElem?_cons_succ, List.getElem?_cons_zero]; rfl)
            case tkq313 => exact fun _ _ _ h => h
            case tky313 => exact Or.inl ⟨by rfl, by intro wSw hSw; (try dsimp only at hSw); go_simp; try with_reducible rfl⟩
            try simp only [Act.put, List.setIfInBounds_toArray, List.set_cons_zero, List.set_cons_succ]
            refine wpAnyH_take (i := 14) (oi := ?tko314) (v := ?tkv314) ?tkh314 (by kernel_rfl) (by kernel_rfl) (by kernel_rfl) ?tkq314 ?tky314 hHeld ?tkr314
            case tkh314 => (simp only [List.getElem?_toArray, List.getElem?_cons_succ, List.getElem?_cons_zero]; rfl)
            case tkq314 => exact fun _ _ _ h => h
            case tky314 => exact Or.inl ⟨by rfl, by intro wSw hSw; (try dsimp only at hSw); go_simp; try with_reducible rfl⟩
            try simp only [Act.put, List.setIfInBounds_toArray, List.set_cons_zero, List.set_cons_succ]
            refine wpAnyH_take (i := 15) (oi := ?tko315) (v := ?tkv315) ?tkh315 (by kernel_rfl) (by kernel_rfl) (by kernel_rfl) ?tkq315 ?tky315 hHeld ?tkr315
            case tkh315 => (simp only [List.getElem?_toArray, List.getElem?_cons_succ, List.getElem?_cons_zero]; rfl)
            case tkq315 => exact fun _ _ _ h => h
            case tky315 => exact Or.inl ⟨by rfl, by intro wSw hSw; (try dsimp only at hSw); go_simp; try with_reducible rfl⟩
            try simp only [Act.put, List.setIfInBounds_toArray, List.set_cons_zero, List.set_cons_succ]
            refine wpAnyH_take (i := 16) (oi := ?tko316) (v := ?tkv316) ?tkh316 (by kernel_rfl) (by kernel_rfl) (by kernel_rfl) ?tkq316 ?tky316 hHeld ?tkr316
            case tkh316 => (simp only [List.getElem?_toArray, List.getElem?_cons_succ, List.getElem?_cons_zero]; rfl)
            case tkq316 => exact fun _ _ _ h => h
            case tky316 => exact Or.inl ⟨by rfl, by intro wSw hSw; (try dsimp only at hSw); go_simp; try with_reducible rfl⟩
            try simp only [Act.put, List.setIfInBounds_toArray, List.set_cons_zero, List.set_cons_succ]
            refine wpAnyH_take (i := 17) (oi := ?tko317) (v := ?tkv317) ?tkh317 (by kernel_rfl) (by kernel_rfl) (by kernel_rfl) ?tkq317 ?tky317 hHeld ?tkr317
            case tkh317 => (simp only [List.getElem?_toArray, List.getElem?_cons_succ, List.getElem?_cons_zero]; rfl)
            case tkq317 => exact fun _ _ _ h => h
            case tky317 => exact Or.inl ⟨by rfl, by intro wSw hSw; (try dsimp only at hSw); go_simp; try with_reducible rfl⟩
            try simp only [Act.put, List.setIfInBounds_toArray, List.set_cons_zero, List.set_cons_succ]
            refine wpAnyH_take (i := 18) (oi := ?tko318) (v := ?tkv318) ?tkh318 (by kernel_rfl) (by kernel_rfl) (by kernel_rfl) ?tkq318 ?tky318 hHeld ?tkr318
            case tkh318 => (simp only [List.getElem?_toArray, List.getElem?_cons_succ, List.getElem?_cons_zero]; rfl)
            case tkq318 => exact fun _ _ _ h => h
            case tky318 => exact Or.inl ⟨by rfl, by intro wSw hSw; (try dsimp only at hSw); go_simp; try with_reducible rfl⟩
            try simp only [Act.put, List.setIfInBounds_toArray, List.set_cons_zero, List.set_cons_succ]
            refine wpAnyH_take (i := 19) (oi := ?tko319) (v := ?tkv319) ?tkh319 (by kernel_rfl) (by kernel_rfl) (by kernel_rfl) ?tkq319 ?tky319 hHeld ?tkr319
            case tkh319 => (simp only [List.getElem?_toArray, List.getElem?_cons_succ, List.getElem?_cons_zero]; rfl)
            case tkq319 => exact fun _ _ _ h => h
            case tky319 => exact Or.inl ⟨by rfl, by intro wSw hSw; (try dsimp only at hSw); go_simp; try with_reducible rfl⟩
            try simp only [Act.put, List.setIfInBounds_toArray, List.set_cons_zero, List.set_cons_succ]
            refine wpAnyH_take (i := 20) (oi := ?tko320) (v := ?tkv320) ?tkh320 (by kernel_rfl) (by kernel_rfl) (by kernel_rfl) ?tkq320 ?tky320 hHeld ?tkr320
            case tkh320 => (simp only [List.getElem?_toArray, List.getElem?_cons_succ, List.getElem?_cons_zero]; rfl)
            case tkq320 => exact fun _ _ _ h => h
            case tky320 => exact Or.inl ⟨by rfl, by intro wSw hSw; (try dsimp only at hSw); go_simp; try with_reducible rfl⟩
            try simp only [Act.put, List.setIfInBounds_toArray, List.set_cons_zero, List.set_cons_succ]
            refine wpAnyH_take (i := 21) (oi := ?tko321) (v := ?tkv321) ?tkh321 (by kernel_rfl) (by kernel_rfl) (by kernel_rfl) ?tkq321 ?tky321 hHeld ?tkr321
            case tkh321 => (simp only [List.getElem?_toArray, List.getElem?_cons_succ, List.getElem?_cons_zero]; rfl)
            case tkq321 => exact fun _ _ _ h => h
            case tky321 => exact Or.inl ⟨by rfl, by intro wSw hSw; (try dsimp only at hSw); go_simp; try with_reducible rfl⟩
            try simp only [Act.put, List.setIfInBounds_toArray, List.set_cons_zero, List.set_cons_succ]
            refine wpAnyH_take (i := 22) (oi := ?tko322) (v := ?tkv322) ?tkh322 (by kernel_rfl) (by kernel_rfl) (by kernel_rfl) ?tkq322 ?tky322 hHeld ?tkr322
            case tkh322 => (simp only [List.getElem?_toArray, List.getElem?_cons_succ, List.getElem?_cons_zero]; rfl)
            case tkq322 => exact fun _ _ _ h => h
            case tky322 => exact Or.inl ⟨by rfl, by intro wSw hSw; (try dsimp only at hSw); go_simp; try with_reducible rfl⟩
            try simp only [Act.put, List.setIfInBounds_toArray, List.set_cons_zero, List.set_cons_succ]
            refine wpAnyH_take (i := 23) (oi := ?tko323) (v := ?tkv323) ?tkh323 (by kernel_rfl) (by kernel_rfl) (by kernel_rfl) ?tkq323 ?tky323 hHeld ?tkr323
            case tkh323 => (simp only [List.getElem?_toArray, List.getElem?_cons_succ, List.getElem?_cons_zero]; rfl)
            case tkq323 => exact fun _ _ _ h => h
            case tky323 => exact Or.inl ⟨by rfl, by intro wSw hSw; (try dsimp only at hSw); go_simp; try with_reducible rfl⟩
            try simp only [Act.put, List.setIfInBounds_toArray, List.set_cons_zero, List.set_cons_succ]
            refine wpAnyH_take (i := 24) (oi := ?tko324) (v := ?tkv324) ?tkh324 (by kernel_rfl) (by kernel_rfl) (by kernel_rfl) ?tkq324 ?tky324 hHeld ?tkr324
            case tkh324 => (simp only [List.getElem?_toArray, List.getElem?_cons_succ, List.getElem?_cons_zero]; rfl)
            case tkq324 => exact fun _ _ _ h => h
            case tky324 => exact Or.inl ⟨by rfl, by intro wSw hSw; (try dsimp only at hSw); go_simp; try with_reducible rfl⟩
            try simp only [Act.put, List.setIfInBounds_toArray, List.set_cons_zero, List.set_cons_succ]
            refine wpAnyH_take (i := 25) (oi := ?tko325) (v := ?tkv325) ?tkh325 (by kernel_rfl) (by kernel_rfl) (by kernel_rfl) ?tkq325 ?tky325 hHeld ?tkr325
            case tkh325 => (simp only [List.getElem?_toArray, List.getElem?_cons_succ, List.getElem?_cons_zero]; rfl)
            case tkq325 => exact fun _ _ _ h => h
            case tky325 => exact Or.inl ⟨by rfl, by intro wSw hSw; (try dsimp only at hSw); go_simp; try with_reducible rfl⟩
            try simp only [Act.put, List.setIfInBounds_toArray, List.set_cons_zero, List.set_cons_succ]
            refine wpAnyH_take (i := 26) (oi := ?tko326) (v := ?tkv326) ?tkh326 (by kernel_rfl) (by kernel_rfl) (by kernel_rfl) ?tkq326 ?tky326 hHeld ?tkr326
            case tkh326 => (simp only [List.getElem?_toArray, List.getElem?_cons_succ, List.getElem?_cons_zero]; rfl)
            case tkq326 => exact fun _ _ _ h => h
            case tky326 => exact Or.inl ⟨by rfl, by intro wSw hSw; (try dsimp only at hSw); go_simp; try with_reducible rfl⟩
            try simp only [Act.put, List.setIfInBounds_toArray, List.set_cons_zero, List.set_cons_succ]
            refine wpAnyH_take (i := 27) (oi := ?tko327) (v := ?tkv327) ?tkh327 (by kernel_rfl) (by kernel_rfl) (by kernel_rfl) ?tkq327 ?tky327 hHeld ?tkr327
            case tkh327 => (simp only [List.getElem?_toArray, List.getElem?_cons_succ, List.getElem?_cons_zero]; rfl)
            case tkq327 => exact fun _ _ _ h => h
            case tky327 => exact Or.inl ⟨by rfl, by intro wSw hSw; (try dsimp only at hSw); go_simp; try with_reducible rfl⟩
            try simp only [Act.put, List.setIfInBounds_toArray, List.set_cons_zero, List.set_cons_succ]
            refine wpAnyH_take (i := 28) (oi := ?tko328) (v := ?tkv328) ?tkh328 (by kernel_rfl) (by kernel_rfl) (by kernel_rfl) ?tkq328 ?tky328 hHeld ?tkr328
            case tkh328 => (simp only [List.getElem?_toArray, List.getElem?_cons_succ, List.getElem?_cons_zero]; rfl)
            case tkq328 => exact fun _ _ _ h => h
            case tky328 => exact Or.inl ⟨by rfl, by intro wSw hSw; (try dsimp only at hSw); go_simp; try with_reducible rfl⟩
            try simp only [Act.put, List.setIfInBounds_toArray, List.set_cons_zero, List.set_cons_succ]
            refine wpAnyH_take (i := 29) (oi := ?tko329) (v := ?tkv329) ?tkh329 (by kernel_rfl) (by kernel_rfl) (by kernel_rfl) ?tkq329 ?tky329 hHeld ?tkr329
            case tkh329 => (simp only [List.getElem?_toArray, List.getElem?_cons_succ, List.getElem?_cons_zero]; rfl)
            case tkq329 => exact fun _ _ _ h => h
            case tky329 => exact Or.inl ⟨by rfl, by intro wSw hSw; (try dsimp only at hSw); go_simp; try with_reducible rfl⟩
            try simp only [Act.put, List.setIfInBounds_toArray, List.set_cons_zero, List.set_cons_succ]
            refine wpAnyH_take (i := 30) (oi := ?tko330) (v := ?tkv330) ?tkh330 (by kernel_rfl) (by kernel_rfl) (by kernel_rfl) ?tkq330 ?tky330 hHeld ?tkr330
            case tkh330 => (simp only [List.getElem?_toArray, List.getElem?_cons_succ, List.getElem?_cons_zero]; rfl)
            case tkq330 => exact fun _ _ _ h => h
            case tky330 => exact Or.inl ⟨by rfl, by intro wSw hSw; (try dsimp only at hSw); go_simp; try with_reducible rfl⟩
            try simp only [Act.put, List.setIfInBounds_toArray, List.set_cons_zero, List.set_cons_succ]
            refine wpAnyH_take (i := 31) (oi := ?tko331) (v := ?tkv331) ?tkh331 (by kernel_rfl) (by kernel_rfl) (by kernel_rfl) ?tkq331 ?tky331 hHeld ?tkr331
            case tkh331 => (simp only [List.getElem?_toArray, List.getElem?_cons_succ, List.getElem?_cons_zero]; rfl)
            case tkq331 => exact fun _ _ _ h => h
            case tky331 => exact Or.inl ⟨by rfl, by intro wSw hSw; (try dsimp only at hSw); go_simp; try with_reducible rfl⟩
            try simp only [Act.put, List.setIfInBounds_toArray, List.set_cons_zero, List.set_cons_succ]
            refine wpAnyH_take (i := 32) (oi := ?tko332) (v := ?tkv332) ?tkh332 (by kernel_rfl) (by kernel_rfl) (by kernel_rfl) ?tkq332 ?tky332 hHeld ?tkr332
            case tkh332 => (simp only [List.getElem?_toArray, List.getElem?_cons_succ, List.getElem?_cons_zero]; rfl)
            case tkq332 => exact fun _ _ _ h => h
            case tky332 => exact Or.inl ⟨by rfl, by intro wSw hSw; (try dsimp only at hSw); go_simp; try with_reducible rfl⟩
            try simp only [Act.put, List.setIfInBounds_toArray, List.set_cons_zero, List.set_cons_succ]
            refine wpAnyH_take (i := 33) (oi := ?tko333) (v := ?tkv333) ?tkh333 (by kernel_rfl) (by kernel_rfl) (by kernel_rfl) ?tkq333 ?tky333 hHeld ?tkr333
            case tkh333 => (simp only [List.getElem?_toArray, List.getElem?_cons_succ, List.getElem?_cons_zero]; rfl)
            case tkq333 => exact fun _ _ _ h => h
            case tky333 => exact Or.inl ⟨by rfl, by intro wSw hSw; (try dsimp only at hSw); go_simp; try with_reducible rfl⟩
            try simp only [Act.put, List.setIfInBounds_toArray, List.set_cons_zero, List.set_cons_succ]
            refine wpAnyH_take (i := 34) (oi := ?tko334) (v := ?tkv334) ?tkh334 (by kernel_rfl) (by kernel_rfl) (by kernel_rfl) ?tkq334 ?tky334 hHeld ?tkr334
            case tkh334 => (simp only [List.getElem?_toArray, List.getElem?_cons_succ, List.getElem?_cons_zero]; rfl)
            case tkq334 => exact fun _ _ _ h => h
            case tky334 => exact Or.inl ⟨by rfl, by intro wSw hSw; (try dsimp only at hSw); go_simp; try with_reducible rfl⟩
            try simp only [Act.put, List.setIfInBounds_toArray, List.set_cons_zero, List.set_cons_succ]
            refine wpAnyH_take (i := 35) (oi := ?tko335) (v := ?tkv335) ?tkh335 (by kernel_rfl) (by kernel_rfl) (by kernel_rfl) ?tkq335 ?tky335 hHeld ?tkr335
            case tkh335 => (simp only [List.getElem?_toArray, List.getElem?_cons_succ, List.getElem?_cons_zero]; rfl)
            case tkq335 => exact fun _ _ _ h => h
            case tky335 => exact Or.inl ⟨by rfl, by intro wSw hSw; (try dsimp only at hSw); go_simp; try with_reducible rfl⟩
            try simp only [Act.put, List.setIfInBounds_toArray, List.set_cons_zero, List.set_cons_succ]
            refine wpAnyH_take (i := 36) (oi := ?tko336) (v := ?tkv336) ?tkh336 (by kernel_rfl) (by kernel_rfl) (by kernel_rfl) ?tkq336 ?tky336 hHeld ?tkr336
            case tkh336 => (simp only [List.getElem?_toArray, List.getElem?_cons_succ, List.getElem?_cons_zero]; rfl)
            case tkq336 => exact fun _ _ _ h => h
            case tky336 => exact Or.inl ⟨by rfl, by intro wSw hSw; (try dsimp only at hSw); go_simp; try with_reducible rfl⟩
            try simp only [Act.put, List.setIfInBounds_toArray, List.set_cons_zero, List.set_cons_succ]
            refine wpAnyH_take (i := 37) (oi := ?tko337) (v := ?tkv337) ?tkh337 (by kernel_rfl) (by kernel_rfl) (by kernel_rfl) ?tkq337 ?tky337 hHeld ?tkr337
            case tkh337 => (simp only [List.getElem?_toArray, List.getElem?_cons_succ, List.getElem?_cons_zero]; rfl)
            case tkq337 => exact fun _ _ _ h => h
            case tky337 => exact Or.inl ⟨by rfl, by intro wSw hSw; (try dsimp only at hSw); go_simp; try with_reducible rfl⟩
            try simp only [Act.put, List.setIfInBounds_toArray, List.set_cons_zero, List.set_cons_succ]
            refine wpAnyH_take (i := 38) (oi := ?tko338) (v := ?tkv338) ?tkh338 (by kernel_rfl) (by kernel_rfl) (by kernel_rfl) ?tkq338 ?tky338 hHeld ?tkr338
            case tkh338 => (simp only [List.getElem?_toArray, List.getElem?_cons_succ, List.getElem?_cons_zero]; rfl)
            case tkq338 => exact fun _ _ _ h => h
            case tky338 => exact Or.inl ⟨by rfl, by intro wSw hSw; (try dsimp only at hSw); go_simp; try with_reducible rfl⟩
            try simp only [Act.put, List.setIfInBounds_toArray, List.set_cons_zero, List.set_cons_succ]
            refine wpAnyH_take (i := 39) (oi := ?tko339) (v := ?tkv339) ?tkh339 (by kernel_rfl) (by kernel_rfl) (by kernel_rfl) ?tkq339 ?tky339 hHeld ?tkr339
            case tkh339 => (simp only [List.getElem?_toArray, List.getElem?_cons_succ, List.getElem?_cons_zero]; rfl)
            case tkq339 => exact fun _ _ _ h => h
            case tky339 => exact Or.inl ⟨by rfl, by intro wSw hSw; (try dsimp only at hSw); go_simp; try with_reducible rfl⟩
            try simp only [Act.put, List.setIfInBounds_toArray, List.set_cons_zero, List.set_cons_succ]
            refine wpAnyH_take (i := 40) (oi := ?tko340) (v := ?tkv340) ?tkh340 (by kernel_rfl) (by kernel_rfl) (by kernel_rfl) ?tkq340 ?tky340 hHeld ?tkr340
            case tkh340 => (simp only [List.getElem?_toArray, List.getElem?_cons_succ, List.getElem?_cons_zero]; rfl)
            case tkq340 => exact fun _ _ _ h => h
            case tky340 => exact Or.inl ⟨by rfl, by intro wSw hSw; (try dsimp only at hSw); go_simp; try with_reducible rfl⟩
            try simp only [Act.put, List.setIfInBounds_toArray, List.set_cons_zero, List.set_cons_succ]
            refine wpAnyH_take (i := 41) (oi := ?tko341) (v := ?tkv341) ?tkh341 (by kernel_rfl) (by kernel_rfl) (by kernel_rfl) ?tkq341 ?tky341 hHeld ?tkr341
            case tkh341 => (simp only [List.getElem?_toArray, List.getElem?_cons_succ, List.getElem?_cons_zero]; rfl)
            case tkq341 => exact fun _ _ _ h => h
            case tky341 => exact Or.inl ⟨by rfl, by intro wSw hSw; (try dsimp only at hSw); go_simp; try with_reducible rfl⟩
            try simp only [Act.put, List.setIfInBounds_toArray, List.set_cons_zero, List.set_cons_succ]
            refine wpAnyH_take (i := 42) (oi := ?tko342) (v := ?tkv342) ?tkh342 (by kernel_rfl) (by kernel_rfl) (by kernel_rfl) ?tkq342 ?tky342 hHeld ?tkr342
            case tkh342 => (simp only [List.getElem?_toArray, List.getElem?_cons_succ, List.getElem?_cons_zero]; rfl)
            case tkq342 => exact fun _ _ _ h => h
            case tky342 => exact Or.inl ⟨by rfl, by intro wSw hSw; (try dsimp only at hSw); go_simp; try with_reducible rfl⟩
            try simp only [Act.put, List.setIfInBounds_toArray, List.set_cons_zero, List.set_cons_succ]
            refine wpAnyH_take (i := 43) (oi := ?tko343) (v := ?tkv343) ?tkh343 (by kernel_rfl) (by kernel_rfl) (by kernel_rfl) ?tkq343 ?tky343 hHeld ?tkr343
            case tkh343 => (simp only [List.getElem?_toArray, List.getElem?_cons_succ, List.getElem?_cons_zero]; rfl)
            case tkq343 => exact fun _ _ _ h => h
            case tky343 => exact Or.inl ⟨by rfl, by intro wSw hSw; (try dsimp only at hSw); go_simp; try with_reducible rfl⟩
            try simp only [Act.put, List.setIfInBounds_toArray, List.set_cons_zero, List.set_cons_succ]
            refine wpAnyH_take (i := 44) (oi := ?tko344) (v := ?tkv344) ?tkh344 (by kernel_rfl) (by kernel_rfl) (by kernel_rfl) ?tkq344 ?tky344 hHeld ?tkr344
            case tkh344 => (simp only [List.getElem?_toArray, List.getElem?_cons_succ, List.getElem?_cons_zero]; rfl)
            case tkq344 => exact fun _ _ _ h => h
            case tky344 => exact Or.inl ⟨by rfl, by intro wSw hSw; (try dsimp only at hSw); go_simp; try with_reducible rfl⟩
            try simp only [Act.put, List.setIfInBounds_toArray, List.set_cons_zero, List.set_cons_succ]
            refine wpAnyH_take (i := 45) (oi := ?tko345) (v := ?tkv345) ?tkh345 (by kernel_rfl) (by kernel_rfl) (by kernel_rfl) ?tkq345 ?tky345 hHeld ?tkr345
            case tkh345 => (simp only [List.getElem?_toArray, List.getElem?_cons_succ, List.getElem?_cons_zero]; rfl)
            case tkq345 => exact fun _ _ _ h => h
            case tky345 => exact Or.inl ⟨by rfl, by intro wSw hSw; (try dsimp only at hSw); go_simp; try with_reducible rfl⟩
            try simp only [Act.put, List.setIfInBounds_toArray, List.set_cons_zero, List.set_cons_succ]
            refine wpAnyH_take (i := 46) (oi := ?tko346) (v := ?tkv346) ?tkh346 (by kernel_rfl) (by kernel_rfl) (by kernel_rfl) ?tkq346 ?tky346 hHeld ?tkr346
            case tkh346 => (simp only [List.getElem?_toArray, List.getElem?_cons_succ, List.getElem?_cons_zero]; rfl)
            case tkq346 => exact fun _ _ _ h => h
            case tky346 => exact Or.inl ⟨by rfl, by intro wSw hSw; (try dsimp only at hSw); go_simp; try with_reducible rfl⟩
            try simp only [Act.put, List.setIfInBounds_toArray, List.set_cons_zero, List.set_cons_succ]
            refine wpAnyH_take (i := 47) (oi := ?tko347) (v := ?tkv347) ?tkh347 (by kernel_rfl) (by kernel_rfl) (by kernel_rfl) ?tkq347 ?tky347 hHeld ?tkr347
            case tkh347 => (simp only [List.getElem?_toArray, List.getElem?_cons_succ, List.getElem?_cons_zero]; rfl)
            case tkq347 => exact fun _ _ _ h => h
            case tky347 => exact Or.inl ⟨by rfl, by intro wSw hSw; (try dsimp only at hSw); go_simp; try with_reducible rfl⟩
            try simp only [Act.put, List.setIfInBounds_toArray, List.set_cons_zero, List.set_cons_succ]
            refine wpAnyH_take (i := 48) (oi := ?tko348) (v := ?tkv348) ?tkh348 (by kernel_rfl) (by kernel_rfl) (by kernel_rfl) ?tkq348 ?tky348 hHeld ?tkr348
            case tkh348 => (simp only [List.getElem?_toArray, List.getElem?_cons_succ, List.getElem?_cons_zero]; rfl)
            case tkq348 => exact fun _ _ _ h => h
            case tky348 => exact Or.inl ⟨by rfl, by intro wSw hSw; (try dsimp only at hSw); go_simp; try with_reducible rfl⟩
            try simp only [Act.put, List.setIfInBounds_toArray, List.set_cons_zero, List.set_cons_succ]
            refine wpAnyH_take (i := 49) (oi := ?tko349) (v := ?tkv349) ?tkh349 (by kernel_rfl) (by kernel_rfl) (by kernel_rfl) ?tkq349 ?tky349 hHeld ?tkr349
            case tkh349 => (simp only [List.getElem?_toArray, List.getElem?_cons_succ, List.getElem?_cons_zero]; rfl)
            case tkq349 => exact fun _ _ _ h => h
            case tky349 => exact Or.inl ⟨by rfl, by intro wSw hSw; (try dsimp only at hSw); go_simp; try with_reducible rfl⟩
            try simp only [Act.put, List.setIfInBounds_toArray, List.set_cons_zero, List.set_cons_succ]
            refine wpAnyH_take (i := 50) (oi := ?tko350) (v := ?tkv350) ?tkh350 (by kernel_rfl) (by kernel_rfl) (by kernel_rfl) ?tkq350 ?tky350 hHeld ?tkr350
            case tkh350 => (simp only [List.getElem?_toArray, List.getElem?_cons_succ, List.getElem?_cons_zero]; rfl)
            case tkq350 => exact fun _ _ _ h => h
            case tky350 => exact Or.inl ⟨by rfl, by intro wSw hSw; (try dsimp only at hSw); go_simp; try with_reducible rfl⟩
            try simp only [Act.put, List.setIfInBounds_toArray, List.set_cons_zero, List.set_cons_succ]
            refine wpAnyH_take (i := 51) (oi := ?tko351) (v := ?tkv351) ?tkh351 (by kernel_rfl) (by kernel_rfl) (by kernel_rfl) ?tkq351 ?tky351 hHeld ?tkr351
            case tkh351 => (simp only [List.getElem?_toArray, List.getElem?_cons_succ, List.getElem?_cons_zero]; rfl)
            case tkq351 => exact fun _ _ _ h => h
            case tky351 => exact Or.inl ⟨by rfl, by intro wSw hSw; (try dsimp only at hSw); go_simp; try with_reducible rfl⟩
            try simp only [Act.put, List.setIfInBounds_toArray, List.set_cons_zero, List.set_cons_succ]
            refine wpAnyH_take (i := 52) (oi := ?tko352) (v := ?tkv352) ?tkh352 (by kernel_rfl) (by kernel_rfl) (by kernel_rfl) ?tkq352 ?tky352 hHeld ?tkr352
            case tkh352 => (simp only [List.getElem?_toArray, List.getElem?_cons_succ, List.getElem?_cons_zero]; rfl)
            case tkq352 => exact fun _ _ _ h => h
            case tky352 => exact Or.inl ⟨by rfl, by intro wSw hSw; (try dsimp only at hSw); go_simp; try with_reducible rfl⟩
            try simp only [Act.put, List.setIfInBounds_toArray, List.set_cons_zero, List.set_cons_succ]
            refine wpAnyH_done (by kernel_rfl) ?_ _
            clear hHeld
            go_wp2_with fail
            go_roundw
            case rel => exact ⟨q + 1, by simp, by omega, HBD.out⟩
            case measure => (show N - (q + 1) < N - q; omega)
        · go_wp2_with fail
          go_roundw
          case rel => exact ⟨p + 1, by simp, by omega, HBI.out⟩
          case measure => (show N - (p + 1) < N - p; omega)
    · go_wp2_with (go_at_call 8; refine (lawAwake _).mono ?_; rintro e w13 ⟨rfl, hb13⟩)
      go_ret
      exact ⟨rfl, (HB4.out.trans (HBO.out.mono HB4.out.size)).trans (hb13.mono (HB4.out.trans (HBO.out.mono HB4.out.size)).size)⟩
end Go.Proofs.Ytcpmcgbjmncalaa.Paths
