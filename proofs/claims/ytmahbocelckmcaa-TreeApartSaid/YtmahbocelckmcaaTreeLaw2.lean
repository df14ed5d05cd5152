/-
  The walk of the law TreeMade. By an AI agent.
-/
import Derived.Test.YtmahbocelckmcaaTreeMake
import Derived.Test.YtmahbocelckmcaaTreeLaw1
namespace Go.Proofs.Ytmahbocelckmcaa.Tree
open Go.RowKit Go.Sort Go.Proofs.Ytmahbocelckmcaa.Ints

set_option maxHeartbeats 8000000 in
set_option maxRecDepth 100000 in
theorem lawMade (A : Option Addr) (n c : Nat) (zs : List Int) (pl : Bool) (w : World) (h : Rd .u16 w A n zs) (hn : n ≤ maxLen) :
    Calls Try.prog 4 #[.slice A n c, .bool pl] w fun e w' => e = .returned (.bool true) ∧ Below w.heap.size w w' := by
  have HZ : ∀ z ∈ zs, 0 ≤ z ∧ z ≤ 65535 := fun z hz => wf_u16 (h.all z hz)
  obtain ⟨gF, lF⟩ := make_ok pl zs HZ
  obtain ⟨gR, lR⟩ := reg_ok pl zs HZ
  have M1 := Lib.hid (lawMake A n c zs pl w h hn)
  have M2 := Lib.hid (fun W (hb : Below w.heap.size w W) => lawReg A n c zs pl W (h.below hb) hn)
  have AW := Lib.hid (fun W => awake W)
  obtain ⟨F, hF⟩ : ∃ F, makeL pl zs = F := ⟨_, rfl⟩
  obtain ⟨R, hR⟩ : ∃ R, regMk pl zs = R := ⟨_, rfl⟩
  rw [hF] at gF lF M1
  rw [hR] at gR lR M2
  obtain ⟨mF, hmF⟩ : ∃ m, F.length = m := ⟨_, rfl⟩
  obtain ⟨mR, hmR⟩ : ∃ m, R.length = m := ⟨_, rfl⟩
  rw [hmF] at lF
  rw [hmR] at lR
  have GF := Lib.hid gF
  have GR := Lib.hid gR
  have HMF := Lib.hid hmF
  have HMR := Lib.hid hmR
  have HLF := Lib.hid lF
  have HLR := Lib.hid lR
  have hiF : (mF : Int) ≤ 100 := by omega
  have hiR : (mR : Int) ≤ 100 := by omega
  clear h hn HZ gF gR hF hR hmF hmR lF lR
  go_enter Try.func4, Try.ntmps4
  go_wp2_with fail
  refine M1.out.mono ?_
  rintro e w1 ⟨A1, c1, rfl, hn1, hc1, hm1, hb1⟩
  rw [HMF.out] at hc1 ⊢
  have N1 := Lib.hid hn1
  have HC1 := Lib.hid hc1
  have B1 := Lib.hid hb1
  clear hn1 hc1 hm1 hb1
  go_wp2_with fail
  refine (M2.out _ B1.out).mono ?_
  rintro e w2 ⟨A2, c2, rfl, hn2, hc2, hm2, hb2⟩
  rw [HMR.out] at hc2 ⊢
  have N2 := Lib.hid hn2
  have N1' := Lib.hid (N1.out.below hb2)
  have HC2 := Lib.hid hc2
  have B2 := Lib.hid (B1.out.trans (hb2.mono B1.out.size))
  clear hn2 hc2 hm2 hb2
  have P1 := Lib.hid (fun W (hb : Below w2.heap.size w2 W) => landForm A1 mF c1 F W HMF.out (by have := HLF.out; omega) (N1'.out.below hb))
  have P2 := Lib.hid (fun W (hb : Below w2.heap.size w2 W) => landReg A1 mF c1 F W HMF.out (by have := HLF.out; omega) (N1'.out.below hb))
  have P3 := Lib.hid (fun W (hb : Below w2.heap.size w2 W) => landReg A2 mR c2 R W HMR.out (by have := HLR.out; omega) (N2.out.below hb))
  have P4 := Lib.hid (fun W (hb : Below w2.heap.size w2 W) => landForm A2 mR c2 R W HMR.out (by have := HLR.out; omega) (N2.out.below hb))
  have P5 := Lib.hid (fun W (hb : Below w2.heap.size w2 W) => landPlain A1 mF c1 F W HMF.out (by have := HLF.out; omega) (N1'.out.below hb))
  have P6 := Lib.hid (fun W (hb : Below w2.heap.size w2 W) => landPlain A2 mR c2 R W HMR.out (by have := HLR.out; omega) (N2.out.below hb))
  have T1 := Lib.hid (fun W (hb : Below w2.heap.size w2 W) (k : Nat) (hk : k < mF) => lawTells A1 mF c1 (k : Int) F W HMF.out (by have := HLF.out; omega) HC1.out (N1'.out.below hb) (by unfold small64; have := HLF.out; omega))
  have T2 := Lib.hid (fun W (hb : Below w2.heap.size w2 W) (k : Nat) (hk : k < mR) => lawTells A2 mR c2 (k : Int) R W HMR.out (by have := HLR.out; omega) HC2.out (N2.out.below hb) (by unfold small64; have := HLR.out; omega))
  rw [GF.out.form] at P1
  rw [GF.out.reg] at P2
  rw [GR.out.reg] at P3
  rw [GR.out.form] at P4
  have hP5 : pl = true → plainL F = true := fun e => by subst e; exact GF.out.plain
  have hP6 : pl = true → plainL R = true := fun e => by subst e; exact GR.out.plain
  cases pl with
  | true =>
    rw [hP5 rfl] at P5
    rw [hP6 rfl] at P6
    clear hP5 hP6
    go_wp2_with fail
    refine (P1.out _ (Below.refl _ _)).mono ?_
    rintro e w3 ⟨rfl, hb⟩
    have B3 := Lib.hid hb
    clear hb
    go_wp2_with fail
    refine (P2.out _ B3.out).mono ?_
    rintro e w4 ⟨rfl, hb⟩
    have B4 := Lib.hid (B3.out.trans (hb.mono B3.out.size))
    clear hb
    go_wp2_with fail
    refine (P3.out _ B4.out).mono ?_
    rintro e w5 ⟨rfl, hb⟩
    have B5 := Lib.hid (B4.out.trans (hb.mono B4.out.size))
    clear hb
    go_wp2_with fail
    refine (P4.out _ B5.out).mono ?_
    rintro e w6 ⟨rfl, hb⟩
    have B6 := Lib.hid (B5.out.trans (hb.mono B5.out.size))
    clear hb
    go_wp2_with fail
    refine (P5.out _ B6.out).mono ?_
    rintro e w7 ⟨rfl, hb⟩
    have B7 := Lib.hid (B6.out.trans (hb.mono B6.out.size))
    clear hb
    go_wp2_with fail
    refine (P6.out _ B7.out).mono ?_
    rintro e w8 ⟨rfl, hb⟩
    have B8 := Lib.hid (B7.out.trans (hb.mono B7.out.size))
    clear hb
    go_wp2
    go_loopw [46] (fun i wr => ∃ k : Nat, k ≤ mF ∧ i = .int .i64 k ∧ Below w2.heap.size w2 wr) (fun i _ => mF - (intOf i).toNat)
    case atStart => exact ⟨0, Nat.zero_le _, rfl, B8.out⟩
    case round =>
      obtain ⟨k, hk, rfl, hB⟩ := hrel
      have HB := Lib.hid hB
      clear hB
      by_cases hkn : k < mF
      · have hkn' : (k : Int) < (mF : Int) := by omega
        have T := Lib.hid (T1.out wr HB.out k hkn)
        go_wp2_with (go_at_call 10; refine T.out.mono ?_; rintro e w9 ⟨rfl, hb9⟩)
        go_roundw
        case rel => exact ⟨k + 1, by omega, by go_num, HB.out.trans (hb9.mono HB.out.size)⟩
        case measure => simp [intOf]; omega
      · have hge : decide ((k : Int) < (mF : Int)) = false := by simp; omega
        go_wp2
        go_loopw [56] (fun i wx => ∃ k : Nat, k ≤ mR ∧ i = .int .i64 k ∧ Below w2.heap.size w2 wx) (fun i _ => mR - (intOf i).toNat)
        case atStart => exact ⟨0, Nat.zero_le _, rfl, HB.out⟩
        case round =>
          obtain ⟨j, hj, rfl, hBx⟩ := hrel
          have HBX := Lib.hid hBx
          clear hBx
          by_cases hjn : j < mR
          · have hjn' : (j : Int) < (mR : Int) := by omega
            have T := Lib.hid (fun W hb => T2.out W hb j hjn)
            go_wp2_with (go_at_call 10; refine (T.out _ HBX.out).mono ?_; rintro e w9 ⟨rfl, hb9⟩)
            go_roundw
            case rel => exact ⟨j + 1, by omega, by go_num, HBX.out.trans (hb9.mono HBX.out.size)⟩
            case measure => simp [intOf]; omega
          · have hge2 : decide ((j : Int) < (mR : Int)) = false := by simp; omega
            go_wp2_with (go_at_call 9; refine (AW.out _).mono ?_; rintro e w9 ⟨rfl, hb9⟩)
            go_ret
            exact ⟨rfl, (B2.out.trans (HBX.out.mono B2.out.size)).trans (hb9.mono (B2.out.trans (HBX.out.mono B2.out.size)).size)⟩
  | false =>
    clear hP5 hP6
    go_wp2_with fail
    refine (P1.out _ (Below.refl _ _)).mono ?_
    rintro e w3 ⟨rfl, hb⟩
    have B3 := Lib.hid hb
    clear hb
    go_wp2_with fail
    refine (P2.out _ B3.out).mono ?_
    rintro e w4 ⟨rfl, hb⟩
    have B4 := Lib.hid (B3.out.trans (hb.mono B3.out.size))
    clear hb
    go_wp2_with fail
    refine (P3.out _ B4.out).mono ?_
    rintro e w5 ⟨rfl, hb⟩
    have B5 := Lib.hid (B4.out.trans (hb.mono B4.out.size))
    clear hb
    go_wp2_with fail
    refine (P4.out _ B5.out).mono ?_
    rintro e w6 ⟨rfl, hb⟩
    have B6 := Lib.hid (B5.out.trans (hb.mono B5.out.size))
    clear hb
    go_wp2
    go_loopw [46] (fun i wr => ∃ k : Nat, k ≤ mF ∧ i = .int .i64 k ∧ Below w2.heap.size w2 wr) (fun i _ => mF - (intOf i).toNat)
    case atStart => exact ⟨0, Nat.zero_le _, rfl, B6.out⟩
    case round =>
      obtain ⟨k, hk, rfl, hB⟩ := hrel
      have HB := Lib.hid hB
      clear hB
      by_cases hkn : k < mF
      · have hkn' : (k : Int) < (mF : Int) := by omega
        have T := Lib.hid (T1.out wr HB.out k hkn)
        go_wp2_with (go_at_call 10; refine T.out.mono ?_; rintro e w9 ⟨rfl, hb9⟩)
        go_roundw
        case rel => exact ⟨k + 1, by omega, by go_num, HB.out.trans (hb9.mono HB.out.size)⟩
        case measure => simp [intOf]; omega
      · have hge : decide ((k : Int) < (mF : Int)) = false := by simp; omega
        go_wp2
        go_loopw [56] (fun i wx => ∃ k : Nat, k ≤ mR ∧ i = .int .i64 k ∧ Below w2.heap.size w2 wx) (fun i _ => mR - (intOf i).toNat)
        case atStart => exact ⟨0, Nat.zero_le _, rfl, HB.out⟩
        case round =>
          obtain ⟨j, hj, rfl, hBx⟩ := hrel
          have HBX := Lib.hid hBx
          clear hBx
          by_cases hjn : j < mR
          · have hjn' : (j : Int) < (mR : Int) := by omega
            have T := Lib.hid (fun W hb => T2.out W hb j hjn)
            go_wp2_with (go_at_call 10; refine (T.out _ HBX.out).mono ?_; rintro e w9 ⟨rfl, hb9⟩)
            go_roundw
            case rel => exact ⟨j + 1, by omega, by go_num, HBX.out.trans (hb9.mono HBX.out.size)⟩
            case measure => simp [intOf]; omega
          · have hge2 : decide ((j : Int) < (mR : Int)) = false := by simp; omega
            go_wp2_with (go_at_call 9; refine (AW.out _).mono ?_; rintro e w9 ⟨rfl, hb9⟩)
            go_ret
            exact ⟨rfl, (B2.out.trans (HBX.out.mono B2.out.size)).trans (hb9.mono (B2.out.trans (HBX.out.mono B2.out.size)).size)⟩
end Go.Proofs.Ytmahbocelckmcaa.Tree
