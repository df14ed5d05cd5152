/-
  The walks of the reference's small, digit and run. By an AI agent.
-/
import Derived.Test.YtmahbocelckmcaaLexChars
namespace Go.Proofs.Ytmahbocelckmcaa.Lex
open Go.RowKit

theorem refSmall (c : UInt8) (w : World) :
    Calls Try.prog 65 #[.int .u8 (c.toNat : Int)] w fun e w' => e = .returned (.bool (small c)) ∧ w' = w := by
  have h : small c = (decide ((97 : Int) ≤ (c.toNat : Int)) && decide ((c.toNat : Int) ≤ 122)) := by
    unfold small
    rw [← Bool.decide_and]
    exact decide_eq_decide.2 (by omega)
  rw [h]
  by_cases h1 : (97 : Int) ≤ (c.toNat : Int)
  all_goals
    go_enter Try.func65, Try.ntmps65
    go_wp2
    go_ret
    exact ⟨by first | (simp [h1]; done) | (simp; omega), rfl⟩

theorem refDigit (c : UInt8) (w : World) :
    Calls Try.prog 86 #[.int .u8 (c.toNat : Int)] w fun e w' => e = .returned (.bool (digit c)) ∧ w' = w := by
  have h : digit c = (decide ((48 : Int) ≤ (c.toNat : Int)) && decide ((c.toNat : Int) ≤ 57)) := by
    unfold digit
    rw [← Bool.decide_and]
    exact decide_eq_decide.2 (by omega)
  rw [h]
  by_cases h1 : (48 : Int) ≤ (c.toNat : Int)
  all_goals
    go_enter Try.func86, Try.ntmps86
    go_wp2
    go_ret
    exact ⟨by first | (simp [h1]; done) | (simp; omega), rfl⟩

set_option maxHeartbeats 8000000 in
theorem refRun (s : ByteArray) (p : Nat) (words : Bool) (w : World) (hp : p ≤ s.size) (hs : s.size ≤ maxLen) :
    Calls Try.prog 66 #[.string s, .int .i64 (p : Int), .bool words] w fun e w' => e = .returned (.int .i64 (run words (s.data.toList.drop p) : Nat)) ∧ w' = w := by
  obtain ⟨R, hR⟩ : ∃ R, run words (s.data.toList.drop p) = R := ⟨_, rfl⟩
  rw [hR]
  have hm : s.size ≤ 9223372036854775807 := by have : maxLen = 9223372036854775807 := rfl; omega
  have HR := Lib.hid (show R = 0 + run words (s.data.toList.drop (p + 0)) by rw [Nat.add_zero, hR]; omega)
  have HP := Lib.hid hp
  have HM := Lib.hid hm
  clear hs hR hp hm
  cases words
  · go_enter Try.func66, Try.ntmps66
    go_wp2
    go_loop [7] (fun i => ∃ n : Nat, p + n ≤ s.size ∧ i = .int .i64 n ∧ Hid (R = n + run false (s.data.toList.drop (p + n)))) (fun i => s.size - p - (intOf i).toNat)
    case atStart => exact ⟨0, by have := HP.out; omega, rfl, HR⟩
    case round =>
      obtain ⟨n, hn, rfl, HN⟩ := hrel
      obtain ⟨q, hq⟩ : ∃ q, p + n = q := ⟨_, rfl⟩
      rw [hq] at hn HN
      obtain ⟨e1, e2⟩ := add64 hq (by have := HM.out; omega)
      by_cases hlt : q < s.size
      · have hlt' : (q : Int) < (s.size : Int) := by omega
        have hd := drop_get s q hlt
        obtain ⟨c, hc⟩ : ∃ c, s[q] = c := ⟨_, rfl⟩
        rw [hc] at hd
        have hN := HN.out
        rw [hd] at hN
        have hpq : p + (n + 1) = q + 1 := by omega
        have hb : (n : Int) + 1 ≤ 9223372036854775807 := by have := HM.out; omega
        have hD := fun W => refDigit c W
        have hS := fun W => refSmall c W
        clear hd HN
        rcases hdig : digit c
        · rw [hdig] at hD
          have HD := Lib.hid hD
          clear hD hS
          rw [run_no (words := false) (r := s.data.toList.drop (q + 1)) hdig] at hN
          have HN := Lib.hid (show R = n by omega)
          clear hN hpq hq
          go_wp2_with (first | (go_at_call 86; refine (HD.out _).mono ?_; rintro e w' ⟨rfl, rfl⟩) | (go_at_call 65; refine (HS.out _).mono ?_; rintro e w' ⟨rfl, rfl⟩))
          go_ret
          exact ⟨by rw [HN.out]; rfl, rfl⟩
        · rw [hdig] at hD
          have HD := Lib.hid hD
          clear hD hS
          rw [run_yes (words := false) (r := s.data.toList.drop (q + 1)) hdig] at hN
          have HN := Lib.hid (show R = (n + 1) + run false (s.data.toList.drop (p + (n + 1))) by rw [hpq]; omega)
          have HQ := Lib.hid (show p + (n + 1) ≤ s.size by omega)
          clear hN hpq hq
          go_wp2_with (first | (go_at_call 86; refine (HD.out _).mono ?_; rintro e w' ⟨rfl, rfl⟩) | (go_at_call 65; refine (HS.out _).mono ?_; rintro e w' ⟨rfl, rfl⟩))
          go_round
          case rel => exact ⟨n + 1, HQ.out, by go_num, HN⟩
          case measure => have := HQ.out; simp [intOf]; omega
      · have hN := HN.out
        rw [drop_end s q (by omega)] at hN
        have HN := Lib.hid (show R = n from hN)
        have hge : decide ((q : Int) < (s.size : Int)) = false := by simp; omega
        clear hN hq
        go_wp2
        go_ret
        exact ⟨by rw [HN.out]; rfl, rfl⟩
  · go_enter Try.func66, Try.ntmps66
    go_wp2
    go_loop [7] (fun i => ∃ n : Nat, p + n ≤ s.size ∧ i = .int .i64 n ∧ Hid (R = n + run true (s.data.toList.drop (p + n)))) (fun i => s.size - p - (intOf i).toNat)
    case atStart => exact ⟨0, by have := HP.out; omega, rfl, HR⟩
    case round =>
      obtain ⟨n, hn, rfl, HN⟩ := hrel
      obtain ⟨q, hq⟩ : ∃ q, p + n = q := ⟨_, rfl⟩
      rw [hq] at hn HN
      obtain ⟨e1, e2⟩ := add64 hq (by have := HM.out; omega)
      by_cases hlt : q < s.size
      · have hlt' : (q : Int) < (s.size : Int) := by omega
        have hd := drop_get s q hlt
        obtain ⟨c, hc⟩ : ∃ c, s[q] = c := ⟨_, rfl⟩
        rw [hc] at hd
        have hN := HN.out
        rw [hd] at hN
        have hpq : p + (n + 1) = q + 1 := by omega
        have hb : (n : Int) + 1 ≤ 9223372036854775807 := by have := HM.out; omega
        have hD := fun W => refDigit c W
        have hS := fun W => refSmall c W
        clear hd HN
        rcases hdig : digit c
        · rw [hdig] at hD
          rcases hsm : small c
          · rw [hsm] at hS
            by_cases h95 : (c.toNat : Int) = 95
            · have hw : wordB c = true := by simp only [wordB, Bool.or_eq_true, decide_eq_true_eq]; exact Or.inr (by omega)
              simp only [h95] at hD hS
              have HD := Lib.hid hD
              have HS := Lib.hid hS
              clear hD hS
              rw [run_yes (words := true) (r := s.data.toList.drop (q + 1)) hw] at hN
              have HN := Lib.hid (show R = (n + 1) + run true (s.data.toList.drop (p + (n + 1))) by rw [hpq]; omega)
              have HQ := Lib.hid (show p + (n + 1) ≤ s.size by omega)
              clear hN hpq hq
              go_wp2_with (first | (go_at_call 86; refine (HD.out _).mono ?_; rintro e w' ⟨rfl, rfl⟩) | (go_at_call 65; refine (HS.out _).mono ?_; rintro e w' ⟨rfl, rfl⟩))
              go_round
              case rel => exact ⟨n + 1, HQ.out, by go_num, HN⟩
              case measure => have := HQ.out; simp [intOf]; omega
            · have hw := word_not hdig hsm h95
              have h95' : ((c.toNat : Int) == 95) = false := by simp only [beq_eq_false_iff_ne]; exact h95
              have HD := Lib.hid hD
              have HS := Lib.hid hS
              clear hD hS
              rw [run_no (words := true) (r := s.data.toList.drop (q + 1)) hw] at hN
              have HN := Lib.hid (show R = n by omega)
              clear hN hpq hq
              go_wp2_with (first | (go_at_call 86; refine (HD.out _).mono ?_; rintro e w' ⟨rfl, rfl⟩) | (go_at_call 65; refine (HS.out _).mono ?_; rintro e w' ⟨rfl, rfl⟩))
              go_ret
              exact ⟨by rw [HN.out]; rfl, rfl⟩
          · rw [hsm] at hS
            have HD := Lib.hid hD
            have HS := Lib.hid hS
            clear hD hS
            rw [run_yes (words := true) (r := s.data.toList.drop (q + 1)) (small_word hsm)] at hN
            have HN := Lib.hid (show R = (n + 1) + run true (s.data.toList.drop (p + (n + 1))) by rw [hpq]; omega)
            have HQ := Lib.hid (show p + (n + 1) ≤ s.size by omega)
            clear hN hpq hq
            go_wp2_with (first | (go_at_call 86; refine (HD.out _).mono ?_; rintro e w' ⟨rfl, rfl⟩) | (go_at_call 65; refine (HS.out _).mono ?_; rintro e w' ⟨rfl, rfl⟩))
            go_round
            case rel => exact ⟨n + 1, HQ.out, by go_num, HN⟩
            case measure => have := HQ.out; simp [intOf]; omega
        · rw [hdig] at hD
          have HD := Lib.hid hD
          clear hD hS
          rw [run_yes (words := true) (r := s.data.toList.drop (q + 1)) (digit_word hdig)] at hN
          have HN := Lib.hid (show R = (n + 1) + run true (s.data.toList.drop (p + (n + 1))) by rw [hpq]; omega)
          have HQ := Lib.hid (show p + (n + 1) ≤ s.size by omega)
          clear hN hpq hq
          go_wp2_with (first | (go_at_call 86; refine (HD.out _).mono ?_; rintro e w' ⟨rfl, rfl⟩) | (go_at_call 65; refine (HS.out _).mono ?_; rintro e w' ⟨rfl, rfl⟩))
          go_round
          case rel => exact ⟨n + 1, HQ.out, by go_num, HN⟩
          case measure => have := HQ.out; simp [intOf]; omega
      · have hN := HN.out
        rw [drop_end s q (by omega)] at hN
        have HN := Lib.hid (show R = n from hN)
        have hge : decide ((q : Int) < (s.size : Int)) = false := by simp; omega
        clear hN hq
        go_wp2
        go_ret
        exact ⟨by rw [HN.out]; rfl, rfl⟩
end Go.Proofs.Ytmahbocelckmcaa.Lex
