/-
  The walks of the landed lex's isLetter, isDigit, inWord, lead, isWord, isTaken and Name, for seats that hold Name without Lex. By an AI agent.
-/
import Derived.Test.YtcpmcgbjmncalaaGPathsUnion5
import Derived.Shelf.Abstract
namespace Go.Proofs.Ytcpmcgbjmncalaa.Lex
open Go.RowKit

theorem landLetter (c : UInt8) (w : World) :
    Calls Try.prog 87 #[.int .u8 (c.toNat : Int)] w fun e w' => e = .returned (.bool (small c)) ∧ w' = w := by
  have h : small c = (decide ((97 : Int) ≤ (c.toNat : Int)) && decide ((c.toNat : Int) ≤ 122)) := by
    unfold small
    rw [← Bool.decide_and]
    exact decide_eq_decide.2 (by omega)
  rw [h]
  by_cases h1 : (97 : Int) ≤ (c.toNat : Int)
  all_goals
    go_enter Try.func87, Try.ntmps87
    go_wp2
    go_ret
    exact ⟨by first | (simp [h1]; done) | (simp; omega), rfl⟩

theorem landDigit (c : UInt8) (w : World) :
    Calls Try.prog 90 #[.int .u8 (c.toNat : Int)] w fun e w' => e = .returned (.bool (digit c)) ∧ w' = w := by
  have h : digit c = (decide ((48 : Int) ≤ (c.toNat : Int)) && decide ((c.toNat : Int) ≤ 57)) := by
    unfold digit
    rw [← Bool.decide_and]
    exact decide_eq_decide.2 (by omega)
  rw [h]
  by_cases h1 : (48 : Int) ≤ (c.toNat : Int)
  all_goals
    go_enter Try.func90, Try.ntmps90
    go_wp2
    go_ret
    exact ⟨by first | (simp [h1]; done) | (simp; omega), rfl⟩

theorem landWordB (c : UInt8) (w : World) :
    Calls Try.prog 89 #[.int .u8 (c.toNat : Int)] w fun e w' => e = .returned (.bool (wordB c)) ∧ w' = w := by
  have h : wordB c = (small c || digit c || decide ((c.toNat : Int) = 95)) := by
    unfold wordB
    rw [Bool.or_comm (digit c) (small c)]
    exact congrArg _ (decide_eq_decide.2 (by omega))
  rw [h]
  have HL := Lib.hid (fun W => landLetter c W)
  have HD := Lib.hid (fun W => landDigit c W)
  clear h
  obtain ⟨a, ha⟩ : ∃ a, small c = a := ⟨_, rfl⟩
  obtain ⟨b, hb⟩ : ∃ b, digit c = b := ⟨_, rfl⟩
  rw [ha, hb]
  rw [ha] at HL
  rw [hb] at HD
  clear ha hb
  cases a <;> cases b
  all_goals
    go_enter Try.func89, Try.ntmps89
    go_wp2_with (first
      | (go_at_call 87; refine (HL.out _).mono ?_; rintro e w' ⟨rfl, rfl⟩)
      | (go_at_call 90; refine (HD.out _).mono ?_; rintro e w' ⟨rfl, rfl⟩))
    go_ret
    exact ⟨by first | rfl | simp, rfl⟩

/-- How many bytes at the beginning are of a kind. -/
def leadS (p : UInt8 → Bool) (l : List UInt8) : Nat := (l.takeWhile p).length
theorem lead_yes {p : UInt8 → Bool} {c : UInt8} {r : List UInt8} (h : p c = true) : leadS p (c :: r) = leadS p r + 1 := by
  unfold leadS
  rw [List.takeWhile_cons_of_pos h]
  rfl
theorem lead_no {p : UInt8 → Bool} {c : UInt8} {r : List UInt8} (h : p c = false) : leadS p (c :: r) = 0 := by
  unfold leadS
  rw [List.takeWhile_cons_of_neg (by rw [h]; decide)]
  rfl
set_option maxHeartbeats 4000000 in
theorem landLead (g : Nat) (p : UInt8 → Bool) (eg : ∀ args w, (callFunc g args).run Try.prog w = .ok (.enter g args) w)
    (hg : ∀ (c : UInt8) (W : World), Calls Try.prog g #[.int .u8 (c.toNat : Int)] W fun e w' => e = .returned (.bool (p c)) ∧ w' = W) (s : ByteArray) (w : World) (hs : s.size ≤ maxLen) :
    Calls Try.prog 88 #[.string s, .func (.func g) #[] #[]] w fun e w' => e = .returned (.int .i64 (leadS p s.data.toList : Nat)) ∧ w' = w := by
  obtain ⟨R, hR⟩ : ∃ R, leadS p s.data.toList = R := ⟨_, rfl⟩
  rw [hR]
  have hm : s.size ≤ 9223372036854775807 := by have : maxLen = 9223372036854775807 := rfl; omega
  have HR := Lib.hid (show R = 0 + leadS p (s.data.toList.drop 0) by rw [Nat.zero_add, List.drop_zero, hR])
  have HM := Lib.hid hm
  have HG := Lib.hid hg
  clear hs hR hm hg
  go_enter Try.func88, Try.ntmps88
  go_wp2
  go_loop [5] (fun i => ∃ n : Nat, n ≤ s.size ∧ i = .int .i64 n ∧ Hid (R = n + leadS p (s.data.toList.drop n))) (fun i => s.size - (intOf i).toNat)
  case atStart => exact ⟨0, Nat.zero_le _, rfl, HR⟩
  case round =>
    obtain ⟨n, hn, rfl, HN⟩ := hrel
    by_cases hlt : n < s.size
    · have hlt' : (n : Int) < (s.size : Int) := by omega
      have hd := drop_get s n hlt
      obtain ⟨c, hc⟩ : ∃ c, s[n] = c := ⟨_, rfl⟩
      rw [hc] at hd
      have hN := HN.out
      rw [hd] at hN
      have hb : (n : Int) + 1 ≤ 9223372036854775807 := by have := HM.out; omega
      have HP := Lib.hid (fun W => HG.out c W)
      clear hd HN
      rcases hpc : p c
      · rw [hpc] at HP
        rw [lead_no hpc] at hN
        have HN := Lib.hid (show R = n by omega)
        clear hN hpc
        go_wp2_with (go_at_fn g; refine (HP.out _).mono ?_; rintro e w' ⟨rfl, rfl⟩)
        go_ret
        exact ⟨by rw [HN.out]; rfl, rfl⟩
      · rw [hpc] at HP
        rw [lead_yes hpc] at hN
        have HN := Lib.hid (show R = (n + 1) + leadS p (s.data.toList.drop (n + 1)) by omega)
        have HQ := Lib.hid (show n + 1 ≤ s.size by omega)
        clear hN hpc
        go_wp2_with (go_at_fn g; refine (HP.out _).mono ?_; rintro e w' ⟨rfl, rfl⟩)
        go_round
        case rel => exact ⟨n + 1, HQ.out, by go_num, HN⟩
        case measure => have := HQ.out; simp [intOf]; omega
    · have hN := HN.out
      rw [drop_end s n (by omega)] at hN
      have HN := Lib.hid (show R = n from hN)
      have hge : decide ((n : Int) < (s.size : Int)) = false := by simp; omega
      clear hN
      go_wp2
      go_ret
      exact ⟨by rw [HN.out]; rfl, rfl⟩
theorem enterWordB : ∀ args w, (callFunc 89 args).run Try.prog w = .ok (.enter 89 args) w := enters_of Try.func89 (by kernel_rfl) rfl
theorem leadWords (s : ByteArray) (w : World) (hs : s.size ≤ maxLen) :
    Calls Try.prog 88 #[.string s, .func (.func 89) #[] #[]] w fun e w' => e = .returned (.int .i64 (run true s.data.toList : Nat)) ∧ w' = w :=
  landLead _ wordB enterWordB landWordB s w hs

theorem dec_beq (a b : List UInt8) : decide (a = b) = (a == b) := by rw [Bool.eq_iff_iff, decide_eq_true_iff, beq_iff_eq]
theorem taken_or (s : ByteArray) : decide (s.data.toList ∈ reserved) = ((s.toList == [116, 114, 117, 101]) || ((s.toList == [102, 97, 108, 115, 101]) || ((s.toList == [112, 114, 101, 118]) || ((s.toList == [110, 101, 120, 116]) || ((s.toList == [111, 110, 99, 101]) || ((s.toList == [104, 105, 115, 116]) || ((s.toList == [115, 111, 109, 101]) || ((s.toList == [97, 108, 108]) || ((s.toList == [115, 105, 110, 99, 101]) || ((s.toList == [117, 110, 116, 105, 108]) || ((s.toList == [98, 97, 99, 107]) || ((s.toList == [102, 111, 114, 101]))))))))))))) := by
  rw [ByteArray.toList_eq]
  simp only [reserved, List.mem_cons, List.not_mem_nil, or_false, Bool.decide_or, dec_beq]

set_option maxHeartbeats 4000000 in
theorem landTaken (s : ByteArray) (w : World) :
    Calls Try.prog 85 #[.string s] w fun e w' => e = .returned (.bool (decide (s.data.toList ∈ reserved))) ∧ w' = w := by
  rw [taken_or]
  obtain ⟨b0, h0⟩ : ∃ b, (s.toList == [116, 114, 117, 101]) = b := ⟨_, rfl⟩
  obtain ⟨b1, h1⟩ : ∃ b, (s.toList == [102, 97, 108, 115, 101]) = b := ⟨_, rfl⟩
  obtain ⟨b2, h2⟩ : ∃ b, (s.toList == [112, 114, 101, 118]) = b := ⟨_, rfl⟩
  obtain ⟨b3, h3⟩ : ∃ b, (s.toList == [110, 101, 120, 116]) = b := ⟨_, rfl⟩
  obtain ⟨b4, h4⟩ : ∃ b, (s.toList == [111, 110, 99, 101]) = b := ⟨_, rfl⟩
  obtain ⟨b5, h5⟩ : ∃ b, (s.toList == [104, 105, 115, 116]) = b := ⟨_, rfl⟩
  obtain ⟨b6, h6⟩ : ∃ b, (s.toList == [115, 111, 109, 101]) = b := ⟨_, rfl⟩
  obtain ⟨b7, h7⟩ : ∃ b, (s.toList == [97, 108, 108]) = b := ⟨_, rfl⟩
  obtain ⟨b8, h8⟩ : ∃ b, (s.toList == [115, 105, 110, 99, 101]) = b := ⟨_, rfl⟩
  obtain ⟨b9, h9⟩ : ∃ b, (s.toList == [117, 110, 116, 105, 108]) = b := ⟨_, rfl⟩
  obtain ⟨b10, h10⟩ : ∃ b, (s.toList == [98, 97, 99, 107]) = b := ⟨_, rfl⟩
  obtain ⟨b11, h11⟩ : ∃ b, (s.toList == [102, 111, 114, 101]) = b := ⟨_, rfl⟩
  rw [h0, h1, h2, h3, h4, h5, h6, h7, h8, h9, h10, h11]
  rcases b0 with _ | _
  rotate_left
  · go_enter Try.func85, Try.ntmps85
    go_wp2
    go_ret
    exact ⟨rfl, rfl⟩
  rcases b1 with _ | _
  rotate_left
  · go_enter Try.func85, Try.ntmps85
    go_wp2
    go_ret
    exact ⟨rfl, rfl⟩
  rcases b2 with _ | _
  rotate_left
  · go_enter Try.func85, Try.ntmps85
    go_wp2
    go_ret
    exact ⟨rfl, rfl⟩
  rcases b3 with _ | _
  rotate_left
  · go_enter Try.func85, Try.ntmps85
    go_wp2
    go_ret
    exact ⟨rfl, rfl⟩
  rcases b4 with _ | _
  rotate_left
  · go_enter Try.func85, Try.ntmps85
    go_wp2
    go_ret
    exact ⟨rfl, rfl⟩
  rcases b5 with _ | _
  rotate_left
  · go_enter Try.func85, Try.ntmps85
    go_wp2
    go_ret
    exact ⟨rfl, rfl⟩
  rcases b6 with _ | _
  rotate_left
  · go_enter Try.func85, Try.ntmps85
    go_wp2
    go_ret
    exact ⟨rfl, rfl⟩
  rcases b7 with _ | _
  rotate_left
  · go_enter Try.func85, Try.ntmps85
    go_wp2
    go_ret
    exact ⟨rfl, rfl⟩
  rcases b8 with _ | _
  rotate_left
  · go_enter Try.func85, Try.ntmps85
    go_wp2
    go_ret
    exact ⟨rfl, rfl⟩
  rcases b9 with _ | _
  rotate_left
  · go_enter Try.func85, Try.ntmps85
    go_wp2
    go_ret
    exact ⟨rfl, rfl⟩
  rcases b10 with _ | _
  rotate_left
  · go_enter Try.func85, Try.ntmps85
    go_wp2
    go_ret
    exact ⟨rfl, rfl⟩
  rcases b11 with _ | _
  rotate_left
  · go_enter Try.func85, Try.ntmps85
    go_wp2
    go_ret
    exact ⟨rfl, rfl⟩
  go_enter Try.func85, Try.ntmps85
  go_wp2
  go_ret
  exact ⟨rfl, rfl⟩

/-- Is a text a word? -/
def isWordS : List UInt8 → Bool
  | [] => false
  | c :: r => decide (r.length + 1 ≤ 16) && small c && decide (run true (c :: r) = r.length + 1)
theorem name_word (L : List UInt8) : nameS L = (isWordS L && !(decide (L ∈ reserved))) := by cases L <;> rfl

set_option maxHeartbeats 2000000 in
theorem landIsWord (s : ByteArray) (w : World) (hs : s.size ≤ maxLen) :
    Calls Try.prog 84 #[.string s] w fun e w' => e = .returned (.bool (isWordS s.data.toList)) ∧ w' = w := by
  have hlen : s.data.toList.length = s.size := Array.length_toList
  cases hL : s.data.toList with
  | nil =>
    have he : s.toList = [] := by rw [ByteArray.toList_eq]; exact hL
    have he2 : (!s.toList.isEmpty) = false := by rw [he]; rfl
    clear hlen hL hs
    go_enter Try.func84, Try.ntmps84
    go_wp2
    go_ret
    exact ⟨rfl, rfl⟩
  | cons c r =>
    have he : s.toList.isEmpty = false := by rw [ByteArray.toList_eq, hL]; rfl
    have hrl : r.length + 1 = s.size := by rw [← hlen, hL]; rfl
    have h0 : 0 < s.size := by omega
    have h0' : (0 : Int) < (s.size : Int) := by omega
    have hc : s[0] = c := by
      have := drop_get s 0 h0
      rw [List.drop_zero, hL] at this
      exact (List.cons.inj this).1.symm
    have hsm := fun W => landLetter c W
    have hrun := fun W => leadWords s W hs
    rw [hL] at hrun
    obtain ⟨n, hn⟩ : ∃ n, run true (c :: r) = n := ⟨_, rfl⟩
    rw [show isWordS (c :: r) = (decide (r.length + 1 ≤ 16) && small c && decide (run true (c :: r) = r.length + 1)) from rfl]
    rw [hn] at hrun ⊢
    rw [hrl]
    have HRUN := Lib.hid hrun
    by_cases h16 : s.size ≤ 16
    · have h16' : (s.size : Int) ≤ 16 := by omega
      rw [decide_eq_true h16, Bool.true_and]
      rcases hbs : small c
      · rw [hbs] at hsm
        have HSM := Lib.hid hsm
        rw [Bool.false_and]
        clear hlen hL hs hrl hn hsm hrun hbs
        go_enter Try.func84, Try.ntmps84
        go_wp2_with (go_at_call 87; refine (HSM.out _).mono ?_; rintro e w' ⟨rfl, rfl⟩)
        go_ret
        exact ⟨rfl, rfl⟩
      · rw [hbs] at hsm
        have HSM := Lib.hid hsm
        rw [Bool.true_and]
        have hq : ((n : Int) == (s.size : Int)) = decide (n = s.size) := by
          rw [Bool.eq_iff_iff, beq_iff_eq, decide_eq_true_iff]
          exact Int.natCast_inj
        rw [← hq]
        clear hlen hL hs hrl hn hsm hrun hbs hq
        go_enter Try.func84, Try.ntmps84
        go_wp2_with (first
          | (go_at_call 87; refine (HSM.out _).mono ?_; rintro e w' ⟨rfl, rfl⟩)
          | (go_at_call 88; refine (HRUN.out _).mono ?_; rintro e w' ⟨rfl, rfl⟩))
        go_ret
        exact ⟨rfl, rfl⟩
    · have h16' : decide ((s.size : Int) ≤ 16) = false := by simp; omega
      rw [decide_eq_false h16, Bool.false_and, Bool.false_and]
      clear hlen hL hs hrl hn hsm hrun h16
      go_enter Try.func84, Try.ntmps84
      go_wp2
      go_ret
      exact ⟨rfl, rfl⟩

set_option maxHeartbeats 1000000 in
theorem landName (s : ByteArray) (w : World) (hs : s.size ≤ maxLen) :
    Calls Try.prog 81 #[.string s] w fun e w' => e = .returned (.bool (nameS s.data.toList)) ∧ w' = w := by
  rw [name_word]
  have hw := fun W => landIsWord s W hs
  have ht := fun W => landTaken s W
  obtain ⟨a, ha⟩ : ∃ a, isWordS s.data.toList = a := ⟨_, rfl⟩
  obtain ⟨b, hb⟩ : ∃ b, decide (s.data.toList ∈ reserved) = b := ⟨_, rfl⟩
  rw [ha] at hw ⊢
  rw [hb] at ht ⊢
  have HW := Lib.hid hw
  have HT := Lib.hid ht
  clear hw ht ha hb hs
  cases a <;> cases b
  all_goals
    go_enter Try.func81, Try.ntmps81
    go_wp2_with (first
      | (go_at_call 84; refine (HW.out _).mono ?_; rintro e w' ⟨rfl, rfl⟩)
      | (go_at_call 85; refine (HT.out _).mono ?_; rintro e w' ⟨rfl, rfl⟩))
    go_ret
    exact ⟨rfl, rfl⟩

end Go.Proofs.Ytcpmcgbjmncalaa.Lex
