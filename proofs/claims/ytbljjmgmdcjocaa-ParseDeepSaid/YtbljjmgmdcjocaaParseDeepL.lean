/-
  The walk of the law ParseDeep. By an AI agent.
-/
import Derived.Test.YtbljjmgmdcjocaaParseDeepM
namespace Go.Proofs.Ytbljjmgmdcjocaa.Parse
open Go.RowKit Go.Proofs.Ytbljjmgmdcjocaa.Ints Go.Proofs.Ytbljjmgmdcjocaa.Lex Go.Proofs.Ytbljjmgmdcjocaa.Tree

theorem bytes_add (a b : List UInt8) : Lex.bytes (a ++ b) = Lex.bytes a ++ Lex.bytes b := by
  apply ByteArray.ext
  apply Array.toList_inj.1
  simp [Lex.bytes]
theorem bytes_size (a : List UInt8) : (Lex.bytes a).size = a.length := rfl
theorem reps_len (u : List UInt8) (k : Nat) : (reps u k).length = k * u.length := by
  induction k with
  | zero => simp [reps]
  | succ k ih => rw [reps, List.length_append, ih, Nat.succ_mul]
theorem deep_yes {h K : Nat} (hh : h < 5) (hK : 37 ≤ K ∧ K ≤ 40) : ∃ l, parseS false (deepText h K) = (l, 0, 0) ∧ l.length = if h = 1 then 1 else K + 1 := by
  obtain ⟨d, rfl⟩ : ∃ d, K = 37 + d := ⟨K - 37, by omega⟩
  have := deep_ok hh (show d < 7 by omega)
  unfold deepOk at this
  simp only at this
  rw [if_neg (by omega), Bool.and_eq_true, decide_eq_true_eq, decide_eq_true_eq] at this
  obtain ⟨l, e1, e2⟩ := out_split this.1
  exact ⟨l, e1, by rw [← e2]; exact this.2⟩
theorem deep_no {h K : Nat} (hh : h < 5) (hK : 40 < K ∧ K ≤ 43) : parseS false (deepText h K) = ([], 40 * (wayOf h).length, 3) := by
  obtain ⟨d, rfl⟩ : ∃ d, K = 37 + d := ⟨K - 37, by omega⟩
  have := deep_ok hh (show d < 7 by omega)
  unfold deepOk at this
  simp only at this
  rw [if_pos (by omega), Bool.and_eq_true, decide_eq_true_eq, decide_eq_true_eq] at this
  obtain ⟨l, e1, e2⟩ := out_split this.1
  have : l = [] := List.eq_nil_of_length_eq_zero (by rw [← e2]; exact this.2)
  rw [e1, this]
theorem deep_len {j : Nat} (hj : j ≤ 43) {u : List UInt8} (hu : u.length ≤ 9) : (reps u j).length ≤ 387 := by
  rw [reps_len]
  exact Nat.le_trans (Nat.mul_le_mul hj hu) (by decide)

set_option maxHeartbeats 16000000 in
set_option maxRecDepth 100000 in
theorem lawDeep0 (n how : Int) (d : Nat) (w : World) (hn0 : 0 ≤ n) (hn1 : n ≤ 255) (hh0 : 0 ≤ how) (hh1 : how ≤ 255) (hd : n % 7 = (d : Int)) (hm : how % 5 = 0) :
    Calls Try.prog 5 #[.int .u8 n, .int .u8 how] w fun e w' => e = .returned (.bool true) ∧ Below w.heap.size w w' := by
  have HA := Lib.hid (fun W => awake W)
  have hd7 : d < 7 := by omega
  have hnm : n.tmod 7 = (d : Int) := by rw [Int.tmod_eq_emod_of_nonneg hn0]; exact hd
  obtain ⟨K, hK⟩ : ∃ K, 37 + d = K := ⟨_, rfl⟩
  have hKi : (37 : Int) + (d : Int) = (K : Int) := by omega
  have hdi : (d : Int) ≤ 6 := by omega
  have hK43 : (K : Int) ≤ 43 := by omega
  have hK37 : (37 : Int) ≤ (K : Int) := by omega
  have HK := Lib.hid (show 37 ≤ K ∧ K ≤ 43 by omega)
  have htm : how.tmod 5 = how % 5 := Int.tmod_eq_emod_of_nonneg hh0
  rw [hm] at htm
  clear hd hK hd7 hm
  go_enter Try.func5, Try.ntmps5
  go_wp2_with fail
  go_loop [8, 23] (fun v i => ∃ (j : Nat) (S : ByteArray), j ≤ K ∧ i = .int .i64 j ∧ v = .string S ∧ S.size ≤ 387 ∧ Hid (S = Lex.bytes (reps [33] j))) (fun _ i => K - (intOf i).toNat)
  case atStart => exact ⟨0, _, Nat.zero_le _, rfl, rfl, by decide, rfl⟩
  case round =>
    obtain ⟨j, S, hj, rfl, rfl, hS, HS⟩ := hrel
    by_cases hjk : j < K
    · have hjk' : (j : Int) < (K : Int) := by omega
      have HX := Lib.hid (show S ++ { data := #[33] } = Lex.bytes (reps [33] (j + 1)) by rw [HS.out, reps, bytes_add]; rfl)
      have HY := Lib.hid (show (reps [33] (j + 1)).length ≤ 387 from deep_len (by have := HK.out; omega) (by decide))
      go_wp2
      go_round
      case rel => exact ⟨j + 1, _, by omega, by go_num, rfl, by rw [HX.out, bytes_size]; exact HY.out, HX.out⟩
      case measure => simp [intOf]; omega
    · have hge : decide ((j : Int) < (K : Int)) = false := by simp; omega
      have hjK : j = K := by omega
      subst hjK
      have HB0 := Lib.hid (fun o : Obj => (Below.refl w.heap.size w).alloc (Nat.le_refl _) o)
      have HSZ := Lib.hid (show (S ++ { data := #[112] } : ByteArray).size ≤ maxLen by rw [ByteArray.size_append]; have : maxLen = 9223372036854775807 := rfl; have : (ByteArray.mk #[112]).size = 1 := rfl; omega)
      have HJ := Lib.hid HK.out
      clear hj hjk
      have HTX := Lib.hid (show (S ++ { data := #[112] }).data.toList = deepText 0 j by rw [HS.out, show (ByteArray.mk #[112]) = Lex.bytes [112] from rfl, ← bytes_add]; show reps [33] _ ++ [112] = _; unfold deepText; rw [if_neg (by decide), List.append_nil]; rfl)
      by_cases h40 : 40 < j
      · have hi : (40 : Int) < (j : Int) := by omega
        have hdn : decide (40 < j) = true := decide_eq_true h40
        have HP := Lib.hid (fun W => landParse (S ++ { data := #[112] }) W HSZ.out)
        rw [HTX.out, deep_no (h := 0) (by decide) ⟨h40, HK.out.2⟩] at HP
        clear h40
        go_wp2_with fail
        refine (HP.out _).mono ?_
        rintro e w1 ⟨A, m, c, rfl, hm, -, -, -, hb⟩
        have hm0 : m = 0 := hm.symm
        subst hm0
        have HB := Lib.hid (Below.trans (HB0.out _) (hb.mono (HB0.out _).size))
        clear hb hm
        go_wp2_with fail
        refine (HA.out _).mono ?_
        rintro e w2 ⟨rfl, hb2⟩
        have HB2 := Lib.hid (HB.out.trans (hb2.mono HB.out.size))
        clear hb2
        go_wp2_with fail
        go_ret
        exact ⟨rfl, HB2.out⟩
      · have hi : decide ((40 : Int) < (j : Int)) = false := by simp; omega
        have hdn : decide (40 < j) = false := decide_eq_false h40
        have HP := Lib.hid (fun W => landParse (S ++ { data := #[112] }) W HSZ.out)
        obtain ⟨l, hl1, hl2⟩ := deep_yes (h := 0) (by decide) ⟨HK.out.1, Nat.le_of_not_lt h40⟩
        rw [HTX.out, hl1] at HP
        have HLL := Lib.hid (show l.length = j + 1 from hl2)
        clear h40 hl1 hl2
        go_wp2_with fail
        refine (HP.out _).mono ?_
        rintro e w1 ⟨A, m, c, rfl, hm, -, -, -, hb⟩
        have hm1 : m = j + 1 := hm.symm.trans HLL.out
        subst hm1
        have HB := Lib.hid (Below.trans (HB0.out _) (hb.mono (HB0.out _).size))
        clear hb hm
        go_wp2_with fail
        refine (HA.out _).mono ?_
        rintro e w2 ⟨rfl, hb2⟩
        have HB2 := Lib.hid (HB.out.trans (hb2.mono HB.out.size))
        clear hb2
        go_wp2_with fail
        go_ret
        exact ⟨rfl, HB2.out⟩
set_option maxHeartbeats 16000000 in
set_option maxRecDepth 100000 in
theorem lawDeep1 (n how : Int) (d : Nat) (w : World) (hn0 : 0 ≤ n) (hn1 : n ≤ 255) (hh0 : 0 ≤ how) (hh1 : how ≤ 255) (hd : n % 7 = (d : Int)) (hm : how % 5 = 1) :
    Calls Try.prog 5 #[.int .u8 n, .int .u8 how] w fun e w' => e = .returned (.bool true) ∧ Below w.heap.size w w' := by
  have HA := Lib.hid (fun W => awake W)
  have hd7 : d < 7 := by omega
  have hnm : n.tmod 7 = (d : Int) := by rw [Int.tmod_eq_emod_of_nonneg hn0]; exact hd
  obtain ⟨K, hK⟩ : ∃ K, 37 + d = K := ⟨_, rfl⟩
  have hKi : (37 : Int) + (d : Int) = (K : Int) := by omega
  have hdi : (d : Int) ≤ 6 := by omega
  have hK43 : (K : Int) ≤ 43 := by omega
  have hK37 : (37 : Int) ≤ (K : Int) := by omega
  have HK := Lib.hid (show 37 ≤ K ∧ K ≤ 43 by omega)
  have htm : how.tmod 5 = how % 5 := Int.tmod_eq_emod_of_nonneg hh0
  rw [hm] at htm
  clear hd hK hd7 hm
  go_enter Try.func5, Try.ntmps5
  go_wp2_with fail
  go_loop [8, 23] (fun v i => ∃ (j : Nat) (S : ByteArray), j ≤ K ∧ i = .int .i64 j ∧ v = .string S ∧ S.size ≤ 387 ∧ Hid (S = Lex.bytes (reps [40] j))) (fun _ i => K - (intOf i).toNat)
  case atStart => exact ⟨0, _, Nat.zero_le _, rfl, rfl, by decide, rfl⟩
  case round =>
    obtain ⟨j, S, hj, rfl, rfl, hS, HS⟩ := hrel
    by_cases hjk : j < K
    · have hjk' : (j : Int) < (K : Int) := by omega
      have HX := Lib.hid (show S ++ { data := #[40] } = Lex.bytes (reps [40] (j + 1)) by rw [HS.out, reps, bytes_add]; rfl)
      have HY := Lib.hid (show (reps [40] (j + 1)).length ≤ 387 from deep_len (by have := HK.out; omega) (by decide))
      go_wp2
      go_round
      case rel => exact ⟨j + 1, _, by omega, by go_num, rfl, by rw [HX.out, bytes_size]; exact HY.out, HX.out⟩
      case measure => simp [intOf]; omega
    · have hge : decide ((j : Int) < (K : Int)) = false := by simp; omega
      have hjK : j = K := by omega
      subst hjK
      have HB0 := Lib.hid (fun o : Obj => (Below.refl w.heap.size w).alloc (Nat.le_refl _) o)
      clear hj hjk
      go_wp2_with fail
      go_loop [8, 34] (fun v i => ∃ (q : Nat) (R : ByteArray), q ≤ j ∧ i = .int .i64 q ∧ v = .string R ∧ R.size ≤ 431 ∧ Hid (R = Lex.bytes (reps [40] j ++ [112] ++ reps [41] q))) (fun _ i => j - (intOf i).toNat)
      case atStart => exact ⟨0, _, Nat.zero_le _, rfl, rfl, by rw [ByteArray.size_append]; have : (ByteArray.mk #[112]).size = 1 := rfl; omega, (show S ++ { data := #[112] } = Lex.bytes (reps [40] j ++ [112] ++ reps [41] 0) by rw [HS.out, show (ByteArray.mk #[112]) = Lex.bytes [112] from rfl, ← bytes_add]; simp [reps])⟩
      case round =>
        obtain ⟨q, R, hq, rfl, rfl, hR, HR⟩ := hrel
        by_cases hqk : q < j
        · have hqk' : (q : Int) < (j : Int) := by omega
          have HX := Lib.hid (show R ++ { data := #[41] } = Lex.bytes (reps [40] j ++ [112] ++ reps [41] (q + 1)) by rw [HR.out, reps, ← List.append_assoc, bytes_add (reps [40] j ++ [112] ++ reps [41] q)]; rfl)
          have HY := Lib.hid (show (R ++ { data := #[41] } : ByteArray).size ≤ 431 by
            rw [HX.out, bytes_size, List.length_append, List.length_append, reps_len, reps_len]
            have := HK.out
            simp only [List.length_cons, List.length_nil]
            omega)
          go_wp2
          go_round
          case rel => exact ⟨q + 1, _, by omega, by go_num, rfl, HY.out, HX.out⟩
          case measure => simp [intOf]; omega
        · have hge2 : decide ((q : Int) < (j : Int)) = false := by simp; omega
          have hqj : q = j := by omega
          subst hqj
          have HSZ := Lib.hid (show R.size ≤ maxLen by have : maxLen = 9223372036854775807 := rfl; omega)
          clear hq hqk
          have HTX := Lib.hid (show (R).data.toList = deepText 1 q by rw [HR.out]; show reps [40] _ ++ [112] ++ reps [41] _ = _; unfold deepText; rw [if_pos rfl]; rfl)
          by_cases h40 : 40 < q
          · have hi : (40 : Int) < (q : Int) := by omega
            have hdn : decide (40 < q) = true := decide_eq_true h40
            have HP := Lib.hid (fun W => landParse (R) W HSZ.out)
            rw [HTX.out, deep_no (h := 1) (by decide) ⟨h40, HK.out.2⟩] at HP
            clear h40
            go_wp2_with fail
            refine (HP.out _).mono ?_
            rintro e w1 ⟨A, m, c, rfl, hm, -, -, -, hb⟩
            have hm0 : m = 0 := hm.symm
            subst hm0
            have HB := Lib.hid (Below.trans (HB0.out _) (hb.mono (HB0.out _).size))
            clear hb hm
            go_wp2_with fail
            refine (HA.out _).mono ?_
            rintro e w2 ⟨rfl, hb2⟩
            have HB2 := Lib.hid (HB.out.trans (hb2.mono HB.out.size))
            clear hb2
            go_wp2_with fail
            go_ret
            exact ⟨rfl, HB2.out⟩
          · have hi : decide ((40 : Int) < (q : Int)) = false := by simp; omega
            have hdn : decide (40 < q) = false := decide_eq_false h40
            have HP := Lib.hid (fun W => landParse (R) W HSZ.out)
            obtain ⟨l, hl1, hl2⟩ := deep_yes (h := 1) (by decide) ⟨HK.out.1, Nat.le_of_not_lt h40⟩
            rw [HTX.out, hl1] at HP
            have HLL := Lib.hid (show l.length = 1 from hl2)
            clear h40 hl1 hl2
            go_wp2_with fail
            refine (HP.out _).mono ?_
            rintro e w1 ⟨A, m, c, rfl, hm, -, -, -, hb⟩
            have hm1 : m = 1 := hm.symm.trans HLL.out
            subst hm1
            have HB := Lib.hid (Below.trans (HB0.out _) (hb.mono (HB0.out _).size))
            clear hb hm
            go_wp2_with fail
            refine (HA.out _).mono ?_
            rintro e w2 ⟨rfl, hb2⟩
            have HB2 := Lib.hid (HB.out.trans (hb2.mono HB.out.size))
            clear hb2
            go_wp2_with fail
            go_ret
            exact ⟨rfl, HB2.out⟩
set_option maxHeartbeats 16000000 in
set_option maxRecDepth 100000 in
theorem lawDeep2 (n how : Int) (d : Nat) (w : World) (hn0 : 0 ≤ n) (hn1 : n ≤ 255) (hh0 : 0 ≤ how) (hh1 : how ≤ 255) (hd : n % 7 = (d : Int)) (hm : how % 5 = 2) :
    Calls Try.prog 5 #[.int .u8 n, .int .u8 how] w fun e w' => e = .returned (.bool true) ∧ Below w.heap.size w w' := by
  have HA := Lib.hid (fun W => awake W)
  have hd7 : d < 7 := by omega
  have hnm : n.tmod 7 = (d : Int) := by rw [Int.tmod_eq_emod_of_nonneg hn0]; exact hd
  obtain ⟨K, hK⟩ : ∃ K, 37 + d = K := ⟨_, rfl⟩
  have hKi : (37 : Int) + (d : Int) = (K : Int) := by omega
  have hdi : (d : Int) ≤ 6 := by omega
  have hK43 : (K : Int) ≤ 43 := by omega
  have hK37 : (37 : Int) ≤ (K : Int) := by omega
  have HK := Lib.hid (show 37 ≤ K ∧ K ≤ 43 by omega)
  have htm : how.tmod 5 = how % 5 := Int.tmod_eq_emod_of_nonneg hh0
  rw [hm] at htm
  clear hd hK hd7 hm
  go_enter Try.func5, Try.ntmps5
  go_wp2_with fail
  go_loop [8, 23] (fun v i => ∃ (j : Nat) (S : ByteArray), j ≤ K ∧ i = .int .i64 j ∧ v = .string S ∧ S.size ≤ 387 ∧ Hid (S = Lex.bytes (reps [112, 114, 101, 118, 32] j))) (fun _ i => K - (intOf i).toNat)
  case atStart => exact ⟨0, _, Nat.zero_le _, rfl, rfl, by decide, rfl⟩
  case round =>
    obtain ⟨j, S, hj, rfl, rfl, hS, HS⟩ := hrel
    by_cases hjk : j < K
    · have hjk' : (j : Int) < (K : Int) := by omega
      have HX := Lib.hid (show S ++ { data := #[112, 114, 101, 118, 32] } = Lex.bytes (reps [112, 114, 101, 118, 32] (j + 1)) by rw [HS.out, reps, bytes_add]; rfl)
      have HY := Lib.hid (show (reps [112, 114, 101, 118, 32] (j + 1)).length ≤ 387 from deep_len (by have := HK.out; omega) (by decide))
      go_wp2
      go_round
      case rel => exact ⟨j + 1, _, by omega, by go_num, rfl, by rw [HX.out, bytes_size]; exact HY.out, HX.out⟩
      case measure => simp [intOf]; omega
    · have hge : decide ((j : Int) < (K : Int)) = false := by simp; omega
      have hjK : j = K := by omega
      subst hjK
      have HB0 := Lib.hid (fun o : Obj => (Below.refl w.heap.size w).alloc (Nat.le_refl _) o)
      have HSZ := Lib.hid (show (S ++ { data := #[112] } : ByteArray).size ≤ maxLen by rw [ByteArray.size_append]; have : maxLen = 9223372036854775807 := rfl; have : (ByteArray.mk #[112]).size = 1 := rfl; omega)
      have HJ := Lib.hid HK.out
      clear hj hjk
      have HTX := Lib.hid (show (S ++ { data := #[112] }).data.toList = deepText 2 j by rw [HS.out, show (ByteArray.mk #[112]) = Lex.bytes [112] from rfl, ← bytes_add]; show reps [112, 114, 101, 118, 32] _ ++ [112] = _; unfold deepText; rw [if_neg (by decide), List.append_nil]; rfl)
      by_cases h40 : 40 < j
      · have hi : (40 : Int) < (j : Int) := by omega
        have hdn : decide (40 < j) = true := decide_eq_true h40
        have HP := Lib.hid (fun W => landParse (S ++ { data := #[112] }) W HSZ.out)
        rw [HTX.out, deep_no (h := 2) (by decide) ⟨h40, HK.out.2⟩] at HP
        clear h40
        go_wp2_with fail
        refine (HP.out _).mono ?_
        rintro e w1 ⟨A, m, c, rfl, hm, -, -, -, hb⟩
        have hm0 : m = 0 := hm.symm
        subst hm0
        have HB := Lib.hid (Below.trans (HB0.out _) (hb.mono (HB0.out _).size))
        clear hb hm
        go_wp2_with fail
        refine (HA.out _).mono ?_
        rintro e w2 ⟨rfl, hb2⟩
        have HB2 := Lib.hid (HB.out.trans (hb2.mono HB.out.size))
        clear hb2
        go_wp2_with fail
        go_ret
        exact ⟨rfl, HB2.out⟩
      · have hi : decide ((40 : Int) < (j : Int)) = false := by simp; omega
        have hdn : decide (40 < j) = false := decide_eq_false h40
        have HP := Lib.hid (fun W => landParse (S ++ { data := #[112] }) W HSZ.out)
        obtain ⟨l, hl1, hl2⟩ := deep_yes (h := 2) (by decide) ⟨HK.out.1, Nat.le_of_not_lt h40⟩
        rw [HTX.out, hl1] at HP
        have HLL := Lib.hid (show l.length = j + 1 from hl2)
        clear h40 hl1 hl2
        go_wp2_with fail
        refine (HP.out _).mono ?_
        rintro e w1 ⟨A, m, c, rfl, hm, -, -, -, hb⟩
        have hm1 : m = j + 1 := hm.symm.trans HLL.out
        subst hm1
        have HB := Lib.hid (Below.trans (HB0.out _) (hb.mono (HB0.out _).size))
        clear hb hm
        go_wp2_with fail
        refine (HA.out _).mono ?_
        rintro e w2 ⟨rfl, hb2⟩
        have HB2 := Lib.hid (HB.out.trans (hb2.mono HB.out.size))
        clear hb2
        go_wp2_with fail
        go_ret
        exact ⟨rfl, HB2.out⟩
set_option maxHeartbeats 16000000 in
set_option maxRecDepth 100000 in
theorem lawDeep3 (n how : Int) (d : Nat) (w : World) (hn0 : 0 ≤ n) (hn1 : n ≤ 255) (hh0 : 0 ≤ how) (hh1 : how ≤ 255) (hd : n % 7 = (d : Int)) (hm : how % 5 = 3) :
    Calls Try.prog 5 #[.int .u8 n, .int .u8 how] w fun e w' => e = .returned (.bool true) ∧ Below w.heap.size w w' := by
  have HA := Lib.hid (fun W => awake W)
  have hd7 : d < 7 := by omega
  have hnm : n.tmod 7 = (d : Int) := by rw [Int.tmod_eq_emod_of_nonneg hn0]; exact hd
  obtain ⟨K, hK⟩ : ∃ K, 37 + d = K := ⟨_, rfl⟩
  have hKi : (37 : Int) + (d : Int) = (K : Int) := by omega
  have hdi : (d : Int) ≤ 6 := by omega
  have hK43 : (K : Int) ≤ 43 := by omega
  have hK37 : (37 : Int) ≤ (K : Int) := by omega
  have HK := Lib.hid (show 37 ≤ K ∧ K ≤ 43 by omega)
  have htm : how.tmod 5 = how % 5 := Int.tmod_eq_emod_of_nonneg hh0
  rw [hm] at htm
  clear hd hK hd7 hm
  go_enter Try.func5, Try.ntmps5
  go_wp2_with fail
  go_loop [8, 23] (fun v i => ∃ (j : Nat) (S : ByteArray), j ≤ K ∧ i = .int .i64 j ∧ v = .string S ∧ S.size ≤ 387 ∧ Hid (S = Lex.bytes (reps [97, 108, 108, 91, 49, 44, 50, 93, 32] j))) (fun _ i => K - (intOf i).toNat)
  case atStart => exact ⟨0, _, Nat.zero_le _, rfl, rfl, by decide, rfl⟩
  case round =>
    obtain ⟨j, S, hj, rfl, rfl, hS, HS⟩ := hrel
    by_cases hjk : j < K
    · have hjk' : (j : Int) < (K : Int) := by omega
      have HX := Lib.hid (show S ++ { data := #[97, 108, 108, 91, 49, 44, 50, 93, 32] } = Lex.bytes (reps [97, 108, 108, 91, 49, 44, 50, 93, 32] (j + 1)) by rw [HS.out, reps, bytes_add]; rfl)
      have HY := Lib.hid (show (reps [97, 108, 108, 91, 49, 44, 50, 93, 32] (j + 1)).length ≤ 387 from deep_len (by have := HK.out; omega) (by decide))
      go_wp2
      go_round
      case rel => exact ⟨j + 1, _, by omega, by go_num, rfl, by rw [HX.out, bytes_size]; exact HY.out, HX.out⟩
      case measure => simp [intOf]; omega
    · have hge : decide ((j : Int) < (K : Int)) = false := by simp; omega
      have hjK : j = K := by omega
      subst hjK
      have HB0 := Lib.hid (fun o : Obj => (Below.refl w.heap.size w).alloc (Nat.le_refl _) o)
      have HSZ := Lib.hid (show (S ++ { data := #[112] } : ByteArray).size ≤ maxLen by rw [ByteArray.size_append]; have : maxLen = 9223372036854775807 := rfl; have : (ByteArray.mk #[112]).size = 1 := rfl; omega)
      have HJ := Lib.hid HK.out
      clear hj hjk
      have HTX := Lib.hid (show (S ++ { data := #[112] }).data.toList = deepText 3 j by rw [HS.out, show (ByteArray.mk #[112]) = Lex.bytes [112] from rfl, ← bytes_add]; show reps [97, 108, 108, 91, 49, 44, 50, 93, 32] _ ++ [112] = _; unfold deepText; rw [if_neg (by decide), List.append_nil]; rfl)
      by_cases h40 : 40 < j
      · have hi : (40 : Int) < (j : Int) := by omega
        have hdn : decide (40 < j) = true := decide_eq_true h40
        have HP := Lib.hid (fun W => landParse (S ++ { data := #[112] }) W HSZ.out)
        rw [HTX.out, deep_no (h := 3) (by decide) ⟨h40, HK.out.2⟩] at HP
        clear h40
        go_wp2_with fail
        refine (HP.out _).mono ?_
        rintro e w1 ⟨A, m, c, rfl, hm, -, -, -, hb⟩
        have hm0 : m = 0 := hm.symm
        subst hm0
        have HB := Lib.hid (Below.trans (HB0.out _) (hb.mono (HB0.out _).size))
        clear hb hm
        go_wp2_with fail
        refine (HA.out _).mono ?_
        rintro e w2 ⟨rfl, hb2⟩
        have HB2 := Lib.hid (HB.out.trans (hb2.mono HB.out.size))
        clear hb2
        go_wp2_with fail
        go_ret
        exact ⟨rfl, HB2.out⟩
      · have hi : decide ((40 : Int) < (j : Int)) = false := by simp; omega
        have hdn : decide (40 < j) = false := decide_eq_false h40
        have HP := Lib.hid (fun W => landParse (S ++ { data := #[112] }) W HSZ.out)
        obtain ⟨l, hl1, hl2⟩ := deep_yes (h := 3) (by decide) ⟨HK.out.1, Nat.le_of_not_lt h40⟩
        rw [HTX.out, hl1] at HP
        have HLL := Lib.hid (show l.length = j + 1 from hl2)
        clear h40 hl1 hl2
        go_wp2_with fail
        refine (HP.out _).mono ?_
        rintro e w1 ⟨A, m, c, rfl, hm, -, -, -, hb⟩
        have hm1 : m = j + 1 := hm.symm.trans HLL.out
        subst hm1
        have HB := Lib.hid (Below.trans (HB0.out _) (hb.mono (HB0.out _).size))
        clear hb hm
        go_wp2_with fail
        refine (HA.out _).mono ?_
        rintro e w2 ⟨rfl, hb2⟩
        have HB2 := Lib.hid (HB.out.trans (hb2.mono HB.out.size))
        clear hb2
        go_wp2_with fail
        go_ret
        exact ⟨rfl, HB2.out⟩
set_option maxHeartbeats 16000000 in
set_option maxRecDepth 100000 in
theorem lawDeep4 (n how : Int) (d : Nat) (w : World) (hn0 : 0 ≤ n) (hn1 : n ≤ 255) (hh0 : 0 ≤ how) (hh1 : how ≤ 255) (hd : n % 7 = (d : Int)) (hm : how % 5 = 4) :
    Calls Try.prog 5 #[.int .u8 n, .int .u8 how] w fun e w' => e = .returned (.bool true) ∧ Below w.heap.size w w' := by
  have HA := Lib.hid (fun W => awake W)
  have hd7 : d < 7 := by omega
  have hnm : n.tmod 7 = (d : Int) := by rw [Int.tmod_eq_emod_of_nonneg hn0]; exact hd
  obtain ⟨K, hK⟩ : ∃ K, 37 + d = K := ⟨_, rfl⟩
  have hKi : (37 : Int) + (d : Int) = (K : Int) := by omega
  have hdi : (d : Int) ≤ 6 := by omega
  have hK43 : (K : Int) ≤ 43 := by omega
  have hK37 : (37 : Int) ≤ (K : Int) := by omega
  have HK := Lib.hid (show 37 ≤ K ∧ K ≤ 43 by omega)
  have htm : how.tmod 5 = how % 5 := Int.tmod_eq_emod_of_nonneg hh0
  rw [hm] at htm
  clear hd hK hd7 hm
  go_enter Try.func5, Try.ntmps5
  go_wp2_with fail
  go_loop [8, 23] (fun v i => ∃ (j : Nat) (S : ByteArray), j ≤ K ∧ i = .int .i64 j ∧ v = .string S ∧ S.size ≤ 387 ∧ Hid (S = Lex.bytes (reps [33, 32] j))) (fun _ i => K - (intOf i).toNat)
  case atStart => exact ⟨0, _, Nat.zero_le _, rfl, rfl, by decide, rfl⟩
  case round =>
    obtain ⟨j, S, hj, rfl, rfl, hS, HS⟩ := hrel
    by_cases hjk : j < K
    · have hjk' : (j : Int) < (K : Int) := by omega
      have HX := Lib.hid (show S ++ { data := #[33, 32] } = Lex.bytes (reps [33, 32] (j + 1)) by rw [HS.out, reps, bytes_add]; rfl)
      have HY := Lib.hid (show (reps [33, 32] (j + 1)).length ≤ 387 from deep_len (by have := HK.out; omega) (by decide))
      go_wp2
      go_round
      case rel => exact ⟨j + 1, _, by omega, by go_num, rfl, by rw [HX.out, bytes_size]; exact HY.out, HX.out⟩
      case measure => simp [intOf]; omega
    · have hge : decide ((j : Int) < (K : Int)) = false := by simp; omega
      have hjK : j = K := by omega
      subst hjK
      have HB0 := Lib.hid (fun o : Obj => (Below.refl w.heap.size w).alloc (Nat.le_refl _) o)
      have HSZ := Lib.hid (show (S ++ { data := #[112] } : ByteArray).size ≤ maxLen by rw [ByteArray.size_append]; have : maxLen = 9223372036854775807 := rfl; have : (ByteArray.mk #[112]).size = 1 := rfl; omega)
      have HJ := Lib.hid HK.out
      clear hj hjk
      have HTX := Lib.hid (show (S ++ { data := #[112] }).data.toList = deepText 4 j by rw [HS.out, show (ByteArray.mk #[112]) = Lex.bytes [112] from rfl, ← bytes_add]; show reps [33, 32] _ ++ [112] = _; unfold deepText; rw [if_neg (by decide), List.append_nil]; rfl)
      by_cases h40 : 40 < j
      · have hi : (40 : Int) < (j : Int) := by omega
        have hdn : decide (40 < j) = true := decide_eq_true h40
        have HP := Lib.hid (fun W => landParse (S ++ { data := #[112] }) W HSZ.out)
        rw [HTX.out, deep_no (h := 4) (by decide) ⟨h40, HK.out.2⟩] at HP
        clear h40
        go_wp2_with fail
        refine (HP.out _).mono ?_
        rintro e w1 ⟨A, m, c, rfl, hm, -, -, -, hb⟩
        have hm0 : m = 0 := hm.symm
        subst hm0
        have HB := Lib.hid (Below.trans (HB0.out _) (hb.mono (HB0.out _).size))
        clear hb hm
        go_wp2_with fail
        refine (HA.out _).mono ?_
        rintro e w2 ⟨rfl, hb2⟩
        have HB2 := Lib.hid (HB.out.trans (hb2.mono HB.out.size))
        clear hb2
        go_wp2_with fail
        go_ret
        exact ⟨rfl, HB2.out⟩
      · have hi : decide ((40 : Int) < (j : Int)) = false := by simp; omega
        have hdn : decide (40 < j) = false := decide_eq_false h40
        have HP := Lib.hid (fun W => landParse (S ++ { data := #[112] }) W HSZ.out)
        obtain ⟨l, hl1, hl2⟩ := deep_yes (h := 4) (by decide) ⟨HK.out.1, Nat.le_of_not_lt h40⟩
        rw [HTX.out, hl1] at HP
        have HLL := Lib.hid (show l.length = j + 1 from hl2)
        clear h40 hl1 hl2
        go_wp2_with fail
        refine (HP.out _).mono ?_
        rintro e w1 ⟨A, m, c, rfl, hm, -, -, -, hb⟩
        have hm1 : m = j + 1 := hm.symm.trans HLL.out
        subst hm1
        have HB := Lib.hid (Below.trans (HB0.out _) (hb.mono (HB0.out _).size))
        clear hb hm
        go_wp2_with fail
        refine (HA.out _).mono ?_
        rintro e w2 ⟨rfl, hb2⟩
        have HB2 := Lib.hid (HB.out.trans (hb2.mono HB.out.size))
        clear hb2
        go_wp2_with fail
        go_ret
        exact ⟨rfl, HB2.out⟩
theorem lawDeep (n how : Int) (w : World) (hn : 0 ≤ n ∧ n ≤ 255) (hh : 0 ≤ how ∧ how ≤ 255) :
    Calls Try.prog 5 #[.int .u8 n, .int .u8 how] w fun e w' => e = .returned (.bool true) ∧ Below w.heap.size w w' := by
  obtain ⟨d, hd⟩ : ∃ d : Nat, n % 7 = (d : Int) := Int.eq_ofNat_of_zero_le (Int.emod_nonneg _ (by omega))
  have hcase : how % 5 = 0 ∨ how % 5 = 1 ∨ how % 5 = 2 ∨ how % 5 = 3 ∨ how % 5 = 4 := by omega
  rcases hcase with hm | hm | hm | hm | hm
  · exact lawDeep0 n how d w hn.1 hn.2 hh.1 hh.2 hd hm
  · exact lawDeep1 n how d w hn.1 hn.2 hh.1 hh.2 hd hm
  · exact lawDeep2 n how d w hn.1 hn.2 hh.1 hh.2 hd hm
  · exact lawDeep3 n how d w hn.1 hn.2 hh.1 hh.2 hd hm
  · exact lawDeep4 n how d w hn.1 hn.2 hh.1 hh.2 hd hm
end Go.Proofs.Ytbljjmgmdcjocaa.Parse
