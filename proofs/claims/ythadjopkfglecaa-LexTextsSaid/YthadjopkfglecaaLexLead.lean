/-
  The walks of the landed lex's isBlank, isLetter, isDigit, inWord and lead. By an AI agent.
-/
import Derived.Test.YthadjopkfglecaaLexBase
import Derived.Shelf.Abstract
namespace Go.Proofs.Ythadjopkfglecaa.Lex
open Go.RowKit

theorem landBlank (c : UInt8) (w : World) :
    Calls Try.prog 26 #[.int .u8 (c.toNat : Int)] w fun e w' => e = .returned (.bool (blank c)) ∧ w' = w := by
  have h : blank c = (decide ((c.toNat : Int) = 32) || decide ((c.toNat : Int) = 10)) := by
    unfold blank
    rw [← Bool.decide_or]
    exact decide_eq_decide.2 (by omega)
  rw [h]
  obtain ⟨x, hx⟩ : ∃ x : Int, (c.toNat : Int) = x := ⟨_, rfl⟩
  rw [hx]
  clear h hx
  by_cases h1 : x = 32
  all_goals
    go_enter Try.func26, Try.ntmps26
    go_wp2
    go_ret
    exact ⟨by first | rfl | (simp [h1]; done) | (simp [h1]; rfl), rfl⟩

theorem landLetter (c : UInt8) (w : World) :
    Calls Try.prog 27 #[.int .u8 (c.toNat : Int)] w fun e w' => e = .returned (.bool (small c)) ∧ w' = w := by
  have h : small c = (decide ((97 : Int) ≤ (c.toNat : Int)) && decide ((c.toNat : Int) ≤ 122)) := by
    unfold small
    rw [← Bool.decide_and]
    exact decide_eq_decide.2 (by omega)
  rw [h]
  by_cases h1 : (97 : Int) ≤ (c.toNat : Int)
  all_goals
    go_enter Try.func27, Try.ntmps27
    go_wp2
    go_ret
    exact ⟨by first | (simp [h1]; done) | (simp; omega), rfl⟩

theorem landDigit (c : UInt8) (w : World) :
    Calls Try.prog 29 #[.int .u8 (c.toNat : Int)] w fun e w' => e = .returned (.bool (digit c)) ∧ w' = w := by
  have h : digit c = (decide ((48 : Int) ≤ (c.toNat : Int)) && decide ((c.toNat : Int) ≤ 57)) := by
    unfold digit
    rw [← Bool.decide_and]
    exact decide_eq_decide.2 (by omega)
  rw [h]
  by_cases h1 : (48 : Int) ≤ (c.toNat : Int)
  all_goals
    go_enter Try.func29, Try.ntmps29
    go_wp2
    go_ret
    exact ⟨by first | (simp [h1]; done) | (simp; omega), rfl⟩

theorem landWordB (c : UInt8) (w : World) :
    Calls Try.prog 32 #[.int .u8 (c.toNat : Int)] w fun e w' => e = .returned (.bool (wordB c)) ∧ w' = w := by
  have h : wordB c = (small c || digit c || decide ((c.toNat : Int) = 95)) := by
    unfold wordB
    rw [Bool.or_comm (digit c) (small c)]
    exact congrArg _ (decide_eq_decide.2 (by omega))
  rw [h]
  have HL := Lib.hid (fun W => landLetter c W)
  have HD := Lib.hid (fun W => landDigit c W)
  clear h
  obtain ⟨a, ha⟩ : ∃ a, small c = a := ⟨_, rfl⟩
  obtain ⟨b, hb⟩ : ∃ b, digit c = b := ⟨_, rfl⟩
  rw [ha, hb]
  rw [ha] at HL
  rw [hb] at HD
  clear ha hb
  cases a <;> cases b
  all_goals
    go_enter Try.func32, Try.ntmps32
    go_wp2_with (first
      | (go_at_call 27; refine (HL.out _).mono ?_; rintro e w' ⟨rfl, rfl⟩)
      | (go_at_call 29; refine (HD.out _).mono ?_; rintro e w' ⟨rfl, rfl⟩))
    go_ret
    exact ⟨by first | rfl | simp, rfl⟩

/-- How many bytes at the beginning are of a kind. -/
def leadS (p : UInt8 → Bool) (l : List UInt8) : Nat := (l.takeWhile p).length
theorem lead_yes {p : UInt8 → Bool} {c : UInt8} {r : List UInt8} (h : p c = true) : leadS p (c :: r) = leadS p r + 1 := by
  unfold leadS
  rw [List.takeWhile_cons_of_pos h]
  rfl
theorem lead_no {p : UInt8 → Bool} {c : UInt8} {r : List UInt8} (h : p c = false) : leadS p (c :: r) = 0 := by
  unfold leadS
  rw [List.takeWhile_cons_of_neg (by rw [h]; decide)]
  rfl
theorem lead_run (words : Bool) (l : List UInt8) : leadS (if words then wordB else digit) l = run words l := rfl

set_option maxHeartbeats 4000000 in
theorem landLead (g : Nat) (p : UInt8 → Bool) (eg : ∀ args w, (callFunc g args).run Try.prog w = .ok (.enter g args) w)
    (hg : ∀ (c : UInt8) (W : World), Calls Try.prog g #[.int .u8 (c.toNat : Int)] W fun e w' => e = .returned (.bool (p c)) ∧ w' = W) (s : ByteArray) (w : World) (hs : s.size ≤ maxLen) :
    Calls Try.prog 25 #[.string s, .func (.func g) #[] #[]] w fun e w' => e = .returned (.int .i64 (leadS p s.data.toList : Nat)) ∧ w' = w := by
  obtain ⟨R, hR⟩ : ∃ R, leadS p s.data.toList = R := ⟨_, rfl⟩
  rw [hR]
  have hm : s.size ≤ 9223372036854775807 := by have : maxLen = 9223372036854775807 := rfl; omega
  have HR := Lib.hid (show R = 0 + leadS p (s.data.toList.drop 0) by rw [Nat.zero_add, List.drop_zero, hR])
  have HM := Lib.hid hm
  have HG := Lib.hid hg
  clear hs hR hm hg
  go_enter Try.func25, Try.ntmps25
  go_wp2
  go_loop [5] (fun i => ∃ n : Nat, n ≤ s.size ∧ i = .int .i64 n ∧ Hid (R = n + leadS p (s.data.toList.drop n))) (fun i => s.size - (intOf i).toNat)
  case atStart => exact ⟨0, Nat.zero_le _, rfl, HR⟩
  case round =>
    obtain ⟨n, hn, rfl, HN⟩ := hrel
    by_cases hlt : n < s.size
    · have hlt' : (n : Int) < (s.size : Int) := by omega
      have hd := drop_get s n hlt
      obtain ⟨c, hc⟩ : ∃ c, s[n] = c := ⟨_, rfl⟩
      rw [hc] at hd
      have hN := HN.out
      rw [hd] at hN
      have hb : (n : Int) + 1 ≤ 9223372036854775807 := by have := HM.out; omega
      have HP := Lib.hid (fun W => HG.out c W)
      clear hd HN
      rcases hpc : p c
      · rw [hpc] at HP
        rw [lead_no hpc] at hN
        have HN := Lib.hid (show R = n by omega)
        clear hN hpc
        go_wp2_with (go_at_fn g; refine (HP.out _).mono ?_; rintro e w' ⟨rfl, rfl⟩)
        go_ret
        exact ⟨by rw [HN.out]; rfl, rfl⟩
      · rw [hpc] at HP
        rw [lead_yes hpc] at hN
        have HN := Lib.hid (show R = (n + 1) + leadS p (s.data.toList.drop (n + 1)) by omega)
        have HQ := Lib.hid (show n + 1 ≤ s.size by omega)
        clear hN hpc
        go_wp2_with (go_at_fn g; refine (HP.out _).mono ?_; rintro e w' ⟨rfl, rfl⟩)
        go_round
        case rel => exact ⟨n + 1, HQ.out, by go_num, HN⟩
        case measure => have := HQ.out; simp [intOf]; omega
    · have hN := HN.out
      rw [drop_end s n (by omega)] at hN
      have HN := Lib.hid (show R = n from hN)
      have hge : decide ((n : Int) < (s.size : Int)) = false := by simp; omega
      clear hN
      go_wp2
      go_ret
      exact ⟨by rw [HN.out]; rfl, rfl⟩
end Go.Proofs.Ythadjopkfglecaa.Lex
