/-
  The walk of the law ParseMany. By an AI agent.
-/
import Derived.Test.YtbljjmgmdcjocaaParseManyM
namespace Go.Proofs.Ytbljjmgmdcjocaa.Parse
open Go.RowKit Go.Proofs.Ytbljjmgmdcjocaa.Ints Go.Proofs.Ytbljjmgmdcjocaa.Lex Go.Proofs.Ytbljjmgmdcjocaa.Tree

theorem many_snoc {g : Bool} {j : Nat} {S : ByteArray} (h : S = Lex.bytes (manyText g j)) (c : UInt8) (hc : (if j % 2 = 1 then (if g = true then 43 else 38) else (if g = true then 46 else 112)) = c) : S ++ { data := #[c] } = Lex.bytes (manyText g (j + 1)) := by
  rw [h, manyText, hc]
  apply ByteArray.ext
  apply Array.toList_inj.1
  simp [Lex.bytes]

set_option maxHeartbeats 16000000 in
set_option maxRecDepth 100000 in
theorem lawMany_false (n : Int) (d : Nat) (w : World) (hn0 : 0 ≤ n) (hn1 : n ≤ 255) (hd : n % 11 = (d : Int)) :
    Calls Try.prog 6 #[.int .u8 n, .bool false] w fun e w' => e = .returned (.bool true) ∧ Below w.heap.size w w' := by
  have HA := Lib.hid (fun W => awake W)
  have hd7 : d < 11 := by omega
  have hnm : n.tmod 11 = (d : Int) := by rw [Int.tmod_eq_emod_of_nonneg hn0]; exact hd
  obtain ⟨K, hK⟩ : ∃ K, 195 + d = K := ⟨_, rfl⟩
  have hKi : (195 : Int) + (d : Int) = (K : Int) := by omega
  have hdi : (d : Int) ≤ 10 := by omega
  have hK43 : (K : Int) ≤ 205 := by omega
  have hK37 : (195 : Int) ≤ (K : Int) := by omega
  have HK := Lib.hid (show 195 ≤ K ∧ K ≤ 205 by omega)
  clear hd hK hd7
  go_enter Try.func6, Try.ntmps6
  go_wp2_with fail
  go_loop [6, 16] (fun v i => ∃ (j : Nat) (S : ByteArray), j ≤ K ∧ i = .int .i64 j ∧ v = .string S ∧ S.size ≤ 205 ∧ Hid (S = Lex.bytes (manyText false j))) (fun _ i => K - (intOf i).toNat)
  case atStart => exact ⟨0, _, Nat.zero_le _, rfl, rfl, by decide, rfl⟩
  case round =>
    obtain ⟨j, S, hj, rfl, rfl, hS, HS⟩ := hrel
    by_cases hjk : j < K
    · have hjk' : (j : Int) < (K : Int) := by omega
      have HY := Lib.hid (show (manyText false (j + 1)).length ≤ 205 by rw [many_len]; have := HK.out; omega)
      by_cases hp : j % 2 = 1
      · have ht : (j : Int).tmod 2 = 1 := by rw [Int.tmod_eq_emod_of_nonneg (by omega)]; omega
        have HX := Lib.hid (many_snoc HS.out 38 (by rw [if_pos hp]; rfl))
        clear hp
        go_wp2
        go_round
        case rel => exact ⟨j + 1, _, by omega, by go_num, rfl, by rw [HX.out]; exact HY.out, HX.out⟩
        case measure => simp [intOf]; omega
      · have ht : (j : Int).tmod 2 = 0 := by rw [Int.tmod_eq_emod_of_nonneg (by omega)]; omega
        have HX := Lib.hid (many_snoc HS.out 112 (by rw [if_neg hp]; rfl))
        clear hp
        go_wp2
        go_round
        case rel => exact ⟨j + 1, _, by omega, by go_num, rfl, by rw [HX.out]; exact HY.out, HX.out⟩
        case measure => simp [intOf]; omega
    · have hge : decide ((j : Int) < (K : Int)) = false := by simp; omega
      have hjK : j = K := by omega
      subst hjK
      have HSZ := Lib.hid (show S.size ≤ maxLen by have : maxLen = 9223372036854775807 := rfl; omega)
      have HTX := Lib.hid (show S.data.toList = manyText false j by rw [HS.out]; rfl)
      have HP := Lib.hid (fun W => landParse S W HSZ.out)
      have HR := Lib.hid (fun W => landRegex S W HSZ.out)
      rw [HTX.out] at HP HR
      clear hj hjk
      by_cases h200 : 200 < j
      · have hi : (200 : Int) < (j : Int) := by omega
        have hdn : decide (200 < j) = true := decide_eq_true h200
        rw [many_over (g := false) ⟨h200, HK.out.2⟩] at HP; clear h200
        have HB0 := Lib.hid (Below.refl w.heap.size w)
        go_wp2_with fail
        refine (HP.out _).mono ?_
        rintro e w1 ⟨A, m, c, rfl, hm, -, -, -, hb⟩
        have hm0 : m = 0 := hm.symm
        subst hm0
        have HB := Lib.hid (HB0.out.trans (hb.mono HB0.out.size))
        clear hb hm
        go_wp2_with fail
        refine (HA.out _).mono ?_
        rintro e w2 ⟨rfl, hb2⟩
        have HB2 := Lib.hid (HB.out.trans (hb2.mono HB.out.size))
        clear hb2
        go_wp2_with fail
        go_ret
        exact ⟨rfl, HB2.out⟩
      · have hi : decide ((200 : Int) < (j : Int)) = false := by simp; omega
        have hdn : decide (200 < j) = false := decide_eq_false h200
        by_cases hp : j % 2 = 0
        · have ht : (j : Int).tmod 2 = 0 := by rw [Int.tmod_eq_emod_of_nonneg (by omega)]; omega
          rw [many_even (g := false) ⟨HK.out.1, Nat.le_of_not_lt h200⟩ hp] at HP; clear h200 hp
          have HB0 := Lib.hid (Below.refl w.heap.size w)
          go_wp2_with fail
          refine (HP.out _).mono ?_
          rintro e w1 ⟨A, m, c, rfl, hm, -, -, -, hb⟩
          have hm0 : m = 0 := hm.symm
          subst hm0
          have HB := Lib.hid (HB0.out.trans (hb.mono HB0.out.size))
          clear hb hm
          go_wp2_with fail
          refine (HA.out _).mono ?_
          rintro e w2 ⟨rfl, hb2⟩
          have HB2 := Lib.hid (HB.out.trans (hb2.mono HB.out.size))
          clear hb2
          go_wp2_with fail
          go_ret
          exact ⟨rfl, HB2.out⟩
        · have ht : (j : Int).tmod 2 = 1 := by rw [Int.tmod_eq_emod_of_nonneg (by omega)]; omega
          obtain ⟨l, hl1, hl2⟩ := many_odd (g := false) ⟨HK.out.1, Nat.le_of_not_lt h200⟩ hp
          have HLL := Lib.hid hl2
          rw [hl1] at HP; clear h200 hp hl1 hl2
          have HB0 := Lib.hid (Below.refl w.heap.size w)
          go_wp2_with fail
          refine (HP.out _).mono ?_
          rintro e w1 ⟨A, m, c, rfl, hm, -, -, -, hb⟩
          have hm0 : m = j := hm.symm.trans HLL.out
          subst hm0
          have HB := Lib.hid (HB0.out.trans (hb.mono HB0.out.size))
          clear hb hm
          go_wp2_with fail
          refine (HA.out _).mono ?_
          rintro e w2 ⟨rfl, hb2⟩
          have HB2 := Lib.hid (HB.out.trans (hb2.mono HB.out.size))
          clear hb2
          go_wp2_with fail
          go_ret
          exact ⟨rfl, HB2.out⟩
set_option maxHeartbeats 16000000 in
set_option maxRecDepth 100000 in
theorem lawMany_true (n : Int) (d : Nat) (w : World) (hn0 : 0 ≤ n) (hn1 : n ≤ 255) (hd : n % 11 = (d : Int)) :
    Calls Try.prog 6 #[.int .u8 n, .bool true] w fun e w' => e = .returned (.bool true) ∧ Below w.heap.size w w' := by
  have HA := Lib.hid (fun W => awake W)
  have hd7 : d < 11 := by omega
  have hnm : n.tmod 11 = (d : Int) := by rw [Int.tmod_eq_emod_of_nonneg hn0]; exact hd
  obtain ⟨K, hK⟩ : ∃ K, 195 + d = K := ⟨_, rfl⟩
  have hKi : (195 : Int) + (d : Int) = (K : Int) := by omega
  have hdi : (d : Int) ≤ 10 := by omega
  have hK43 : (K : Int) ≤ 205 := by omega
  have hK37 : (195 : Int) ≤ (K : Int) := by omega
  have HK := Lib.hid (show 195 ≤ K ∧ K ≤ 205 by omega)
  clear hd hK hd7
  go_enter Try.func6, Try.ntmps6
  go_wp2_with fail
  go_loop [6, 16] (fun v i => ∃ (j : Nat) (S : ByteArray), j ≤ K ∧ i = .int .i64 j ∧ v = .string S ∧ S.size ≤ 205 ∧ Hid (S = Lex.bytes (manyText true j))) (fun _ i => K - (intOf i).toNat)
  case atStart => exact ⟨0, _, Nat.zero_le _, rfl, rfl, by decide, rfl⟩
  case round =>
    obtain ⟨j, S, hj, rfl, rfl, hS, HS⟩ := hrel
    by_cases hjk : j < K
    · have hjk' : (j : Int) < (K : Int) := by omega
      have HY := Lib.hid (show (manyText true (j + 1)).length ≤ 205 by rw [many_len]; have := HK.out; omega)
      by_cases hp : j % 2 = 1
      · have ht : (j : Int).tmod 2 = 1 := by rw [Int.tmod_eq_emod_of_nonneg (by omega)]; omega
        have HX := Lib.hid (many_snoc HS.out 43 (by rw [if_pos hp]; rfl))
        clear hp
        go_wp2
        go_round
        case rel => exact ⟨j + 1, _, by omega, by go_num, rfl, by rw [HX.out]; exact HY.out, HX.out⟩
        case measure => simp [intOf]; omega
      · have ht : (j : Int).tmod 2 = 0 := by rw [Int.tmod_eq_emod_of_nonneg (by omega)]; omega
        have HX := Lib.hid (many_snoc HS.out 46 (by rw [if_neg hp]; rfl))
        clear hp
        go_wp2
        go_round
        case rel => exact ⟨j + 1, _, by omega, by go_num, rfl, by rw [HX.out]; exact HY.out, HX.out⟩
        case measure => simp [intOf]; omega
    · have hge : decide ((j : Int) < (K : Int)) = false := by simp; omega
      have hjK : j = K := by omega
      subst hjK
      have HSZ := Lib.hid (show S.size ≤ maxLen by have : maxLen = 9223372036854775807 := rfl; omega)
      have HTX := Lib.hid (show S.data.toList = manyText true j by rw [HS.out]; rfl)
      have HP := Lib.hid (fun W => landParse S W HSZ.out)
      have HR := Lib.hid (fun W => landRegex S W HSZ.out)
      rw [HTX.out] at HP HR
      clear hj hjk
      by_cases h200 : 200 < j
      · have hi : (200 : Int) < (j : Int) := by omega
        have hdn : decide (200 < j) = true := decide_eq_true h200
        rw [many_over (g := true) ⟨h200, HK.out.2⟩] at HR; clear h200
        go_wp2_with fail
        refine (HP.out _).mono ?_
        rintro e w0 ⟨A0, m0, c0, rfl, -, -, -, -, hb0⟩
        have HB0 := Lib.hid hb0
        clear hb0
        go_wp2_with fail
        refine (HR.out _).mono ?_
        rintro e w1 ⟨A, m, c, rfl, hm, -, -, -, hb⟩
        have hm0 : m = 0 := hm.symm
        subst hm0
        have HB := Lib.hid (HB0.out.trans (hb.mono HB0.out.size))
        clear hb hm
        go_wp2_with fail
        refine (HA.out _).mono ?_
        rintro e w2 ⟨rfl, hb2⟩
        have HB2 := Lib.hid (HB.out.trans (hb2.mono HB.out.size))
        clear hb2
        go_wp2_with fail
        go_ret
        exact ⟨rfl, HB2.out⟩
      · have hi : decide ((200 : Int) < (j : Int)) = false := by simp; omega
        have hdn : decide (200 < j) = false := decide_eq_false h200
        by_cases hp : j % 2 = 0
        · have ht : (j : Int).tmod 2 = 0 := by rw [Int.tmod_eq_emod_of_nonneg (by omega)]; omega
          rw [many_even (g := true) ⟨HK.out.1, Nat.le_of_not_lt h200⟩ hp] at HR; clear h200 hp
          go_wp2_with fail
          refine (HP.out _).mono ?_
          rintro e w0 ⟨A0, m0, c0, rfl, -, -, -, -, hb0⟩
          have HB0 := Lib.hid hb0
          clear hb0
          go_wp2_with fail
          refine (HR.out _).mono ?_
          rintro e w1 ⟨A, m, c, rfl, hm, -, -, -, hb⟩
          have hm0 : m = 0 := hm.symm
          subst hm0
          have HB := Lib.hid (HB0.out.trans (hb.mono HB0.out.size))
          clear hb hm
          go_wp2_with fail
          refine (HA.out _).mono ?_
          rintro e w2 ⟨rfl, hb2⟩
          have HB2 := Lib.hid (HB.out.trans (hb2.mono HB.out.size))
          clear hb2
          go_wp2_with fail
          go_ret
          exact ⟨rfl, HB2.out⟩
        · have ht : (j : Int).tmod 2 = 1 := by rw [Int.tmod_eq_emod_of_nonneg (by omega)]; omega
          obtain ⟨l, hl1, hl2⟩ := many_odd (g := true) ⟨HK.out.1, Nat.le_of_not_lt h200⟩ hp
          have HLL := Lib.hid hl2
          rw [hl1] at HR; clear h200 hp hl1 hl2
          go_wp2_with fail
          refine (HP.out _).mono ?_
          rintro e w0 ⟨A0, m0, c0, rfl, -, -, -, -, hb0⟩
          have HB0 := Lib.hid hb0
          clear hb0
          go_wp2_with fail
          refine (HR.out _).mono ?_
          rintro e w1 ⟨A, m, c, rfl, hm, -, -, -, hb⟩
          have hm0 : m = j := hm.symm.trans HLL.out
          subst hm0
          have HB := Lib.hid (HB0.out.trans (hb.mono HB0.out.size))
          clear hb hm
          go_wp2_with fail
          refine (HA.out _).mono ?_
          rintro e w2 ⟨rfl, hb2⟩
          have HB2 := Lib.hid (HB.out.trans (hb2.mono HB.out.size))
          clear hb2
          go_wp2_with fail
          go_ret
          exact ⟨rfl, HB2.out⟩

theorem lawMany (n : Int) (g : Bool) (w : World) (hn : 0 ≤ n ∧ n ≤ 255) :
    Calls Try.prog 6 #[.int .u8 n, .bool g] w fun e w' => e = .returned (.bool true) ∧ Below w.heap.size w w' := by
  obtain ⟨d, hd⟩ : ∃ d : Nat, n % 11 = (d : Int) := Int.eq_ofNat_of_zero_le (Int.emod_nonneg _ (by omega))
  cases g
  · exact lawMany_false n d w hn.1 hn.2 hd
  · exact lawMany_true n d w hn.1 hn.2 hd
end Go.Proofs.Ytbljjmgmdcjocaa.Parse
