/-
  The walks of the landed lex's isWord, isTaken and Name. By an AI agent.
-/
import Derived.Test.YthadjopkfglecaaLexProg
import Derived.Test.YthadjopkfglecaaLexName
namespace Go.Proofs.Ythadjopkfglecaa.Lex
open Go.RowKit

theorem dec_beq (a b : List UInt8) : decide (a = b) = (a == b) := by rw [Bool.eq_iff_iff, decide_eq_true_iff, beq_iff_eq]
theorem taken_or (s : ByteArray) : decide (s.data.toList ∈ reserved) = ((s.toList == [116, 114, 117, 101]) || ((s.toList == [102, 97, 108, 115, 101]) || ((s.toList == [112, 114, 101, 118]) || ((s.toList == [110, 101, 120, 116]) || ((s.toList == [111, 110, 99, 101]) || ((s.toList == [104, 105, 115, 116]) || ((s.toList == [115, 111, 109, 101]) || ((s.toList == [97, 108, 108]) || ((s.toList == [115, 105, 110, 99, 101]) || ((s.toList == [117, 110, 116, 105, 108]) || ((s.toList == [98, 97, 99, 107]) || ((s.toList == [102, 111, 114, 101]))))))))))))) := by
  rw [ByteArray.toList_eq]
  simp only [reserved, List.mem_cons, List.not_mem_nil, or_false, Bool.decide_or, dec_beq]

set_option maxHeartbeats 4000000 in
theorem landTaken (s : ByteArray) (w : World) :
    Calls Try.prog 22 #[.string s] w fun e w' => e = .returned (.bool (decide (s.data.toList ∈ reserved))) ∧ w' = w := by
  rw [taken_or]
  obtain ⟨b0, h0⟩ : ∃ b, (s.toList == [116, 114, 117, 101]) = b := ⟨_, rfl⟩
  obtain ⟨b1, h1⟩ : ∃ b, (s.toList == [102, 97, 108, 115, 101]) = b := ⟨_, rfl⟩
  obtain ⟨b2, h2⟩ : ∃ b, (s.toList == [112, 114, 101, 118]) = b := ⟨_, rfl⟩
  obtain ⟨b3, h3⟩ : ∃ b, (s.toList == [110, 101, 120, 116]) = b := ⟨_, rfl⟩
  obtain ⟨b4, h4⟩ : ∃ b, (s.toList == [111, 110, 99, 101]) = b := ⟨_, rfl⟩
  obtain ⟨b5, h5⟩ : ∃ b, (s.toList == [104, 105, 115, 116]) = b := ⟨_, rfl⟩
  obtain ⟨b6, h6⟩ : ∃ b, (s.toList == [115, 111, 109, 101]) = b := ⟨_, rfl⟩
  obtain ⟨b7, h7⟩ : ∃ b, (s.toList == [97, 108, 108]) = b := ⟨_, rfl⟩
  obtain ⟨b8, h8⟩ : ∃ b, (s.toList == [115, 105, 110, 99, 101]) = b := ⟨_, rfl⟩
  obtain ⟨b9, h9⟩ : ∃ b, (s.toList == [117, 110, 116, 105, 108]) = b := ⟨_, rfl⟩
  obtain ⟨b10, h10⟩ : ∃ b, (s.toList == [98, 97, 99, 107]) = b := ⟨_, rfl⟩
  obtain ⟨b11, h11⟩ : ∃ b, (s.toList == [102, 111, 114, 101]) = b := ⟨_, rfl⟩
  rw [h0, h1, h2, h3, h4, h5, h6, h7, h8, h9, h10, h11]
  rcases b0 with _ | _
  rotate_left
  · go_enter Try.func22, Try.ntmps22
    go_wp2
    go_ret
    exact ⟨rfl, rfl⟩
  rcases b1 with _ | _
  rotate_left
  · go_enter Try.func22, Try.ntmps22
    go_wp2
    go_ret
    exact ⟨rfl, rfl⟩
  rcases b2 with _ | _
  rotate_left
  · go_enter Try.func22, Try.ntmps22
    go_wp2
    go_ret
    exact ⟨rfl, rfl⟩
  rcases b3 with _ | _
  rotate_left
  · go_enter Try.func22, Try.ntmps22
    go_wp2
    go_ret
    exact ⟨rfl, rfl⟩
  rcases b4 with _ | _
  rotate_left
  · go_enter Try.func22, Try.ntmps22
    go_wp2
    go_ret
    exact ⟨rfl, rfl⟩
  rcases b5 with _ | _
  rotate_left
  · go_enter Try.func22, Try.ntmps22
    go_wp2
    go_ret
    exact ⟨rfl, rfl⟩
  rcases b6 with _ | _
  rotate_left
  · go_enter Try.func22, Try.ntmps22
    go_wp2
    go_ret
    exact ⟨rfl, rfl⟩
  rcases b7 with _ | _
  rotate_left
  · go_enter Try.func22, Try.ntmps22
    go_wp2
    go_ret
    exact ⟨rfl, rfl⟩
  rcases b8 with _ | _
  rotate_left
  · go_enter Try.func22, Try.ntmps22
    go_wp2
    go_ret
    exact ⟨rfl, rfl⟩
  rcases b9 with _ | _
  rotate_left
  · go_enter Try.func22, Try.ntmps22
    go_wp2
    go_ret
    exact ⟨rfl, rfl⟩
  rcases b10 with _ | _
  rotate_left
  · go_enter Try.func22, Try.ntmps22
    go_wp2
    go_ret
    exact ⟨rfl, rfl⟩
  rcases b11 with _ | _
  rotate_left
  · go_enter Try.func22, Try.ntmps22
    go_wp2
    go_ret
    exact ⟨rfl, rfl⟩
  go_enter Try.func22, Try.ntmps22
  go_wp2
  go_ret
  exact ⟨rfl, rfl⟩

/-- Is a text a word? -/
def isWordS : List UInt8 → Bool
  | [] => false
  | c :: r => decide (r.length + 1 ≤ 16) && small c && decide (run true (c :: r) = r.length + 1)
theorem name_word (L : List UInt8) : nameS L = (isWordS L && !(decide (L ∈ reserved))) := by cases L <;> rfl

set_option maxHeartbeats 2000000 in
theorem landIsWord (s : ByteArray) (w : World) (hs : s.size ≤ maxLen) :
    Calls Try.prog 21 #[.string s] w fun e w' => e = .returned (.bool (isWordS s.data.toList)) ∧ w' = w := by
  have hlen : s.data.toList.length = s.size := Array.length_toList
  cases hL : s.data.toList with
  | nil =>
    have he : s.toList = [] := by rw [ByteArray.toList_eq]; exact hL
    have he2 : (!s.toList.isEmpty) = false := by rw [he]; rfl
    clear hlen hL hs
    go_enter Try.func21, Try.ntmps21
    go_wp2
    go_ret
    exact ⟨rfl, rfl⟩
  | cons c r =>
    have he : s.toList.isEmpty = false := by rw [ByteArray.toList_eq, hL]; rfl
    have hrl : r.length + 1 = s.size := by rw [← hlen, hL]; rfl
    have h0 : 0 < s.size := by omega
    have h0' : (0 : Int) < (s.size : Int) := by omega
    have hc : s[0] = c := by
      have := drop_get s 0 h0
      rw [List.drop_zero, hL] at this
      exact (List.cons.inj this).1.symm
    have hsm := fun W => landLetter c W
    have hrun := fun W => leadWords s W hs
    rw [hL] at hrun
    obtain ⟨n, hn⟩ : ∃ n, run true (c :: r) = n := ⟨_, rfl⟩
    rw [show isWordS (c :: r) = (decide (r.length + 1 ≤ 16) && small c && decide (run true (c :: r) = r.length + 1)) from rfl]
    rw [hn] at hrun ⊢
    rw [hrl]
    have HRUN := Lib.hid hrun
    by_cases h16 : s.size ≤ 16
    · have h16' : (s.size : Int) ≤ 16 := by omega
      rw [decide_eq_true h16, Bool.true_and]
      rcases hbs : small c
      · rw [hbs] at hsm
        have HSM := Lib.hid hsm
        rw [Bool.false_and]
        clear hlen hL hs hrl hn hsm hrun hbs
        go_enter Try.func21, Try.ntmps21
        go_wp2_with (go_at_call 27; refine (HSM.out _).mono ?_; rintro e w' ⟨rfl, rfl⟩)
        go_ret
        exact ⟨rfl, rfl⟩
      · rw [hbs] at hsm
        have HSM := Lib.hid hsm
        rw [Bool.true_and]
        have hq : ((n : Int) == (s.size : Int)) = decide (n = s.size) := by
          rw [Bool.eq_iff_iff, beq_iff_eq, decide_eq_true_iff]
          exact Int.natCast_inj
        rw [← hq]
        clear hlen hL hs hrl hn hsm hrun hbs hq
        go_enter Try.func21, Try.ntmps21
        go_wp2_with (first
          | (go_at_call 27; refine (HSM.out _).mono ?_; rintro e w' ⟨rfl, rfl⟩)
          | (go_at_call 25; refine (HRUN.out _).mono ?_; rintro e w' ⟨rfl, rfl⟩))
        go_ret
        exact ⟨rfl, rfl⟩
    · have h16' : decide ((s.size : Int) ≤ 16) = false := by simp; omega
      rw [decide_eq_false h16, Bool.false_and, Bool.false_and]
      clear hlen hL hs hrl hn hsm hrun h16
      go_enter Try.func21, Try.ntmps21
      go_wp2
      go_ret
      exact ⟨rfl, rfl⟩

set_option maxHeartbeats 1000000 in
theorem landName (s : ByteArray) (w : World) (hs : s.size ≤ maxLen) :
    Calls Try.prog 11 #[.string s] w fun e w' => e = .returned (.bool (nameS s.data.toList)) ∧ w' = w := by
  rw [name_word]
  have hw := fun W => landIsWord s W hs
  have ht := fun W => landTaken s W
  obtain ⟨a, ha⟩ : ∃ a, isWordS s.data.toList = a := ⟨_, rfl⟩
  obtain ⟨b, hb⟩ : ∃ b, decide (s.data.toList ∈ reserved) = b := ⟨_, rfl⟩
  rw [ha] at hw ⊢
  rw [hb] at ht ⊢
  have HW := Lib.hid hw
  have HT := Lib.hid ht
  clear hw ht ha hb hs
  cases a <;> cases b
  all_goals
    go_enter Try.func11, Try.ntmps11
    go_wp2_with (first
      | (go_at_call 21; refine (HW.out _).mono ?_; rintro e w' ⟨rfl, rfl⟩)
      | (go_at_call 22; refine (HT.out _).mono ?_; rintro e w' ⟨rfl, rfl⟩))
    go_ret
    exact ⟨rfl, rfl⟩

theorem progName (s : ByteArray) (w : World) (hs : s.size ≤ maxLen) :
    Calls Try.prog 11 #[.string s] w fun e w' => e = .returned (.bool (nameS s.data.toList)) ∧ Below w.heap.size w w' :=
  (landName s w hs).mono fun _ _ ⟨he, hw⟩ => ⟨he, hw ▸ Below.refl _ _⟩
end Go.Proofs.Ythadjopkfglecaa.Lex
