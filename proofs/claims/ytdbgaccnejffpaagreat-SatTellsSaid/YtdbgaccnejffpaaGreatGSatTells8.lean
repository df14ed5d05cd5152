/-
  The part of LexN that speaks of functions which not every seat has. By an AI agent.
  The part of IvalMay that speaks of functions which not every seat has. By an AI agent.
-/
import Derived.Test.YtdbgaccnejffpaaGreatGSatTells6
import Derived.Test.YtdbgaccnejffpaaGreatGSatTells3
namespace Go.Proofs.YtdbgaccnejffpaaGreat.Lex
open Go.RowKit
section
variable {P : Program} {w : World}
end
theorem refSmall (c : UInt8) (w : World) :
  Calls Tryz.prog 95 #[.int .u8 (c.toNat : Int)] w fun e w' => e = .returned (.bool (small c)) ∧ w' = w := by
 have h : small c = (decide ((97 : Int) ≤ (c.toNat : Int)) && decide ((c.toNat : Int) ≤ 122)) := by
  unfold small
  rw [← Bool.decide_and]
  exact decide_eq_decide.2 (by omega)
 rw [h]
 by_cases h1 : (97 : Int) ≤ (c.toNat : Int)
 all_goals
  go_enter Tryz.func95, Tryz.ntmps95
  go_wp2
  go_ret
  exact ⟨by first | (simp [h1]; done) | (simp; omega), rfl⟩
theorem refDigit (c : UInt8) (w : World) :
  Calls Tryz.prog 119 #[.int .u8 (c.toNat : Int)] w fun e w' => e = .returned (.bool (digit c)) ∧ w' = w := by
 have h : digit c = (decide ((48 : Int) ≤ (c.toNat : Int)) && decide ((c.toNat : Int) ≤ 57)) := by
  unfold digit
  rw [← Bool.decide_and]
  exact decide_eq_decide.2 (by omega)
 rw [h]
 by_cases h1 : (48 : Int) ≤ (c.toNat : Int)
 all_goals
  go_enter Tryz.func119, Tryz.ntmps119
  go_wp2
  go_ret
  exact ⟨by first | (simp [h1]; done) | (simp; omega), rfl⟩
set_option maxHeartbeats 8000000 in
theorem refRun (s : ByteArray) (p : Nat) (words : Bool) (w : World) (hp : p ≤ s.size) (hs : s.size ≤ maxLen) :
  Calls Tryz.prog 96 #[.string s, .int .i64 (p : Int), .bool words] w fun e w' => e = .returned (.int .i64 (run words (s.data.toList.drop p) : Nat)) ∧ w' = w := by
 obtain ⟨R, hR⟩ : ∃ R, run words (s.data.toList.drop p) = R := ⟨_, rfl⟩
 rw [hR]
 have hm : s.size ≤ 9223372036854775807 := by have : maxLen = 9223372036854775807 := rfl; omega
 have HR := Lib.hid (show R = 0 + run words (s.data.toList.drop (p + 0)) by rw [Nat.add_zero, hR]; omega)
 have HP := Lib.hid hp
 have HM := Lib.hid hm
 clear hs hR hp hm
 cases words
 ·go_enter Tryz.func96, Tryz.ntmps96
  go_wp2
  go_loop [7] (fun i => ∃ n : Nat, p + n ≤ s.size ∧ i = .int .i64 n ∧ Hid (R = n + run false (s.data.toList.drop (p + n)))) (fun i => s.size - p - (intOf i).toNat)
  case atStart => exact ⟨0, by have := HP.out; omega, rfl, HR⟩
  case round =>
   obtain ⟨n, hn, rfl, HN⟩ := hrel
   obtain ⟨q, hq⟩ : ∃ q, p + n = q := ⟨_, rfl⟩
   rw [hq] at hn HN
   obtain ⟨e1, e2⟩ := add64 hq (by have := HM.out; omega)
   by_cases hlt : q < s.size
   ·have hlt' : (q : Int) < (s.size : Int) := by omega
    have hd := drop_get s q hlt
    obtain ⟨c, hc⟩ : ∃ c, s[q] = c := ⟨_, rfl⟩
    rw [hc] at hd
    have hN := HN.out
    rw [hd] at hN
    have hpq : p + (n + 1) = q + 1 := by omega
    have hb : (n : Int) + 1 ≤ 9223372036854775807 := by have := HM.out; omega
    have hD := fun W => refDigit c W
    have hS := fun W => refSmall c W
    clear hd HN
    rcases hdig : digit c
    ·rw [hdig] at hD
     have HD := Lib.hid hD
     clear hD hS
     rw [run_no (words := false) (r := s.data.toList.drop (q + 1)) hdig] at hN
     have HN := Lib.hid (show R = n by omega)
     clear hN hpq hq
     go_wp2_with (first | (go_at_call 119; refine (HD.out _).mono ?_; rintro e w' ⟨rfl, rfl⟩) | (go_at_call 95; refine (HS.out _).mono ?_; rintro e w' ⟨rfl, rfl⟩))
     go_ret
     exact ⟨by rw [HN.out]; rfl, rfl⟩
    ·rw [hdig] at hD
     have HD := Lib.hid hD
     clear hD hS
     rw [run_yes (words := false) (r := s.data.toList.drop (q + 1)) hdig] at hN
     have HN := Lib.hid (show R = (n + 1) + run false (s.data.toList.drop (p + (n + 1))) by rw [hpq]; omega)
     have HQ := Lib.hid (show p + (n + 1) ≤ s.size by omega)
     clear hN hpq hq
     go_wp2_with (first | (go_at_call 119; refine (HD.out _).mono ?_; rintro e w' ⟨rfl, rfl⟩) | (go_at_call 95; refine (HS.out _).mono ?_; rintro e w' ⟨rfl, rfl⟩))
     go_round
     case rel => exact ⟨n + 1, HQ.out, by go_num, HN⟩
     case measure => have := HQ.out; simp [intOf]; omega
   ·have hN := HN.out
    rw [drop_end s q (by omega)] at hN
    have HN := Lib.hid (show R = n from hN)
    have hge : decide ((q : Int) < (s.size : Int)) = false := by simp; omega
    clear hN hq
    go_wp2
    go_ret
    exact ⟨by rw [HN.out]; rfl, rfl⟩
 ·go_enter Tryz.func96, Tryz.ntmps96
  go_wp2
  go_loop [7] (fun i => ∃ n : Nat, p + n ≤ s.size ∧ i = .int .i64 n ∧ Hid (R = n + run true (s.data.toList.drop (p + n)))) (fun i => s.size - p - (intOf i).toNat)
  case atStart => exact ⟨0, by have := HP.out; omega, rfl, HR⟩
  case round =>
   obtain ⟨n, hn, rfl, HN⟩ := hrel
   obtain ⟨q, hq⟩ : ∃ q, p + n = q := ⟨_, rfl⟩
   rw [hq] at hn HN
   obtain ⟨e1, e2⟩ := add64 hq (by have := HM.out; omega)
   by_cases hlt : q < s.size
   ·have hlt' : (q : Int) < (s.size : Int) := by omega
    have hd := drop_get s q hlt
    obtain ⟨c, hc⟩ : ∃ c, s[q] = c := ⟨_, rfl⟩
    rw [hc] at hd
    have hN := HN.out
    rw [hd] at hN
    have hpq : p + (n + 1) = q + 1 := by omega
    have hb : (n : Int) + 1 ≤ 9223372036854775807 := by have := HM.out; omega
    have hD := fun W => refDigit c W
    have hS := fun W => refSmall c W
    clear hd HN
    rcases hdig : digit c
    ·rw [hdig] at hD
     rcases hsm : small c
     ·rw [hsm] at hS
      by_cases h95 : (c.toNat : Int) = 95
      ·have hw : wordB c = true := by simp only [wordB, Bool.or_eq_true, decide_eq_true_eq]; exact Or.inr (by omega)
       simp only [h95] at hD hS
       have HD := Lib.hid hD
       have HS := Lib.hid hS
       clear hD hS
       rw [run_yes (words := true) (r := s.data.toList.drop (q + 1)) hw] at hN
       have HN := Lib.hid (show R = (n + 1) + run true (s.data.toList.drop (p + (n + 1))) by rw [hpq]; omega)
       have HQ := Lib.hid (show p + (n + 1) ≤ s.size by omega)
       clear hN hpq hq
       go_wp2_with (first | (go_at_call 119; refine (HD.out _).mono ?_; rintro e w' ⟨rfl, rfl⟩) | (go_at_call 95; refine (HS.out _).mono ?_; rintro e w' ⟨rfl, rfl⟩))
       go_round
       case rel => exact ⟨n + 1, HQ.out, by go_num, HN⟩
       case measure => have := HQ.out; simp [intOf]; omega
      ·have hw := word_not hdig hsm h95
       have h95' : ((c.toNat : Int) == 95) = false := by simp only [beq_eq_false_iff_ne]; exact h95
       have HD := Lib.hid hD
       have HS := Lib.hid hS
       clear hD hS
       rw [run_no (words := true) (r := s.data.toList.drop (q + 1)) hw] at hN
       have HN := Lib.hid (show R = n by omega)
       clear hN hpq hq
       go_wp2_with (first | (go_at_call 119; refine (HD.out _).mono ?_; rintro e w' ⟨rfl, rfl⟩) | (go_at_call 95; refine (HS.out _).mono ?_; rintro e w' ⟨rfl, rfl⟩))
       go_ret
       exact ⟨by rw [HN.out]; rfl, rfl⟩
     ·rw [hsm] at hS
      have HD := Lib.hid hD
      have HS := Lib.hid hS
      clear hD hS
      rw [run_yes (words := true) (r := s.data.toList.drop (q + 1)) (small_word hsm)] at hN
      have HN := Lib.hid (show R = (n + 1) + run true (s.data.toList.drop (p + (n + 1))) by rw [hpq]; omega)
      have HQ := Lib.hid (show p + (n + 1) ≤ s.size by omega)
      clear hN hpq hq
      go_wp2_with (first | (go_at_call 119; refine (HD.out _).mono ?_; rintro e w' ⟨rfl, rfl⟩) | (go_at_call 95; refine (HS.out _).mono ?_; rintro e w' ⟨rfl, rfl⟩))
      go_round
      case rel => exact ⟨n + 1, HQ.out, by go_num, HN⟩
      case measure => have := HQ.out; simp [intOf]; omega
    ·rw [hdig] at hD
     have HD := Lib.hid hD
     clear hD hS
     rw [run_yes (words := true) (r := s.data.toList.drop (q + 1)) (digit_word hdig)] at hN
     have HN := Lib.hid (show R = (n + 1) + run true (s.data.toList.drop (p + (n + 1))) by rw [hpq]; omega)
     have HQ := Lib.hid (show p + (n + 1) ≤ s.size by omega)
     clear hN hpq hq
     go_wp2_with (first | (go_at_call 119; refine (HD.out _).mono ?_; rintro e w' ⟨rfl, rfl⟩) | (go_at_call 95; refine (HS.out _).mono ?_; rintro e w' ⟨rfl, rfl⟩))
     go_round
     case rel => exact ⟨n + 1, HQ.out, by go_num, HN⟩
     case measure => have := HQ.out; simp [intOf]; omega
   ·have hN := HN.out
    rw [drop_end s q (by omega)] at hN
    have HN := Lib.hid (show R = n from hN)
    have hge : decide ((q : Int) < (s.size : Int)) = false := by simp; omega
    clear hN hq
    go_wp2
    go_ret
    exact ⟨by rw [HN.out]; rfl, rfl⟩
set_option maxRecDepth 100000 in
theorem arr_at (w : World) : ∀ k : Nat, k < 13 → (Instr.index 130 (.agg arr13) (.int .i64 (k : Int))).run Tryz.prog w = .ok (.string ⟨(words13.getD k []).toArray⟩) w := by
 intro k hk
 match k, hk with
 | 0, _ | 1, _ | 2, _ | 3, _ | 4, _ | 5, _ | 6, _ | 7, _ | 8, _ | 9, _ | 10, _ | 11, _ | 12, _ => rfl
set_option maxHeartbeats 2000000 in
theorem refReserved (s : ByteArray) (w : World) (hne : s.data.toList ≠ []) :
  Calls Tryz.prog 97 #[.string s] w fun e w' => e = .returned (.bool (decide (s.data.toList ∈ reserved))) ∧ w' = w := by
 have HE := Lib.hid hne
 clear hne
 go_enter Tryz.func97, Tryz.ntmps97
 go_wp2
 go_loop [6] (fun i => ∃ k : Nat, k ≤ 13 ∧ i = .int .i64 k ∧ Hid (∀ j, j < k → words13.getD j [] ≠ s.data.toList)) (fun i => 13 - (intOf i).toNat)
 case atStart => exact ⟨0, by omega, rfl, fun j hj => by omega⟩
 case round =>
  obtain ⟨k, hk, rfl, HN⟩ := hrel
  by_cases hlt : k < 13
  ·have hlt' : (k : Int) < 13 := by omega
   have hc := fun W => arr_at W k hlt
   unfold arr13 at hc
   have HS := Lib.hid (words_in HE.out k hlt)
   obtain ⟨x, hx⟩ : ∃ x, words13.getD k [] = x := ⟨_, rfl⟩
   have HX := Lib.hid hx
   rw [hx] at hc
   clear hx
   have hcmp : (s.toList == x) = decide (s.data.toList = x) := by
    rw [ByteArray.toList_eq]
    by_cases h : s.data.toList = x
    ·simp [h]
    ·simp [h]
   by_cases he : s.data.toList = x
   ·rw [decide_eq_true he] at hcmp
    have HR := Lib.hid (HS.out (HX.out.trans he.symm))
    clear HS HX he
    go_wp2
    go_ret
    exact ⟨by rw [HR.out]; rfl, rfl⟩
   ·rw [decide_eq_false he] at hcmp
    have HR := Lib.hid (show ∀ j, j < k + 1 → words13.getD j [] ≠ s.data.toList from fun j hj => by
     by_cases hjk : j = k
     ·rw [hjk, HX.out]; exact fun h => he h.symm
     ·exact HN.out j (by omega))
    clear HS HX he
    go_wp2
    go_round
    case rel => exact ⟨k + 1, by omega, by go_num, HR⟩
    case measure => simp [intOf]; omega
  ·have HR := Lib.hid (words_out (fun j hj => HN.out j (by omega)))
   have hge : decide ((k : Int) < 13) = false := by simp; omega
   go_wp2
   go_ret
   exact ⟨by rw [HR.out]; rfl, rfl⟩
set_option maxHeartbeats 2000000 in
theorem refName (s : ByteArray) (w : World) (hs : s.size ≤ maxLen) :
  Calls Tryz.prog 55 #[.string s] w fun e w' => e = .returned (.bool (nameS s.data.toList)) ∧ w' = w := by
 have hlen : s.data.toList.length = s.size := Array.length_toList
 by_cases h0 : 0 < s.size
 ·have h0' : (0 : Int) < (s.size : Int) := by omega
  by_cases h16 : s.size ≤ 16
  ·have h16' : (s.size : Int) ≤ 16 := by omega
   have hd := drop_get s 0 h0
   obtain ⟨c, hc⟩ : ∃ c, s[0] = c := ⟨_, rfl⟩
   rw [hc, List.drop_zero] at hd
   obtain ⟨r, hr⟩ : ∃ r, s.data.toList.drop (0 + 1) = r := ⟨_, rfl⟩
   rw [hr] at hd
   have hrl : r.length + 1 = s.size := by rw [← hlen, hd]; rfl
   have hsm := fun W => refSmall c W
   have hrun := fun W => refRun s 0 true W (by omega) hs
   have hres := fun W => refReserved s W (by rw [hd]; simp)
   rw [List.drop_zero, hd] at hrun
   rw [hd] at hres ⊢
   rw [name_is (by omega)]
   obtain ⟨n, hn⟩ : ∃ n, run true (c :: r) = n := ⟨_, rfl⟩
   rw [hn] at hrun ⊢
   rw [hrl]
   obtain ⟨b, hb⟩ : ∃ b, decide (c :: r ∈ reserved) = b := ⟨_, rfl⟩
   rw [hb] at hres ⊢
   rcases hbs : small c
   ·rw [hbs] at hsm
    have HSM := Lib.hid hsm
    clear hd hr hrl hrun hres hn hb hlen hs
    go_enter Tryz.func55, Tryz.ntmps55
    go_wp2_with (go_at_call 95; refine (HSM.out _).mono ?_; rintro e w' ⟨rfl, rfl⟩)
    go_ret
    exact ⟨rfl, rfl⟩
   ·rw [hbs] at hsm
    have HSM := Lib.hid hsm
    have HRUN := Lib.hid hrun
    have HRES := Lib.hid hres
    by_cases hrn : n = s.size
    ·have hrn' : ((n : Int) == (s.size : Int)) = true := by simp; omega
     rw [decide_eq_true hrn]
     clear hsm hd hr hrl hrun hres hn hb hlen hs
     subst hrn
     cases b
     all_goals
      go_enter Tryz.func55, Tryz.ntmps55
      go_wp2_with (first
       | (go_at_call 95; refine (HSM.out _).mono ?_; rintro e w' ⟨rfl, rfl⟩)
       | (go_at_call 96; refine (HRUN.out _).mono ?_; rintro e w' ⟨rfl, rfl⟩)
       | (go_at_call 97; refine (HRES.out _).mono ?_; rintro e w' ⟨rfl, rfl⟩))
      go_ret
      exact ⟨rfl, rfl⟩
    ·have hrn' : ((n : Int) == (s.size : Int)) = false := by simp; omega
     rw [decide_eq_false hrn]
     clear hsm hd hr hrl hrun hres hn hb hlen hs hrn
     go_enter Tryz.func55, Tryz.ntmps55
     go_wp2_with (first
      | (go_at_call 95; refine (HSM.out _).mono ?_; rintro e w' ⟨rfl, rfl⟩)
      | (go_at_call 96; refine (HRUN.out _).mono ?_; rintro e w' ⟨rfl, rfl⟩))
     go_ret
     exact ⟨rfl, rfl⟩
  ·have h16' : decide ((s.size : Int) ≤ 16) = false := by simp; omega
   rw [name_not (L := s.data.toList) (by omega)]
   clear hlen hs
   go_enter Tryz.func55, Tryz.ntmps55
   go_wp2
   go_ret
   exact ⟨rfl, rfl⟩
 ·have h0' : decide ((0 : Int) < (s.size : Int)) = false := by simp only [decide_eq_false_iff_not]; omega
  rw [name_not (L := s.data.toList) (by omega)]
  clear hlen hs
  go_enter Tryz.func55, Tryz.ntmps55
  go_wp2
  go_ret
  exact ⟨rfl, rfl⟩
end Go.Proofs.YtdbgaccnejffpaaGreat.Lex

namespace Go.Proofs.YtdbgaccnejffpaaGreat.Ival
open Go.RowKit
theorem refMay (lo hi : Int) (w : World) :
  Calls Tryz.prog 59 #[span lo hi] w fun e w' => e = .returned (.bool (mayS lo hi)) ∧ Below w.heap.size w w' := by
 rcases may_cases lo hi with ⟨h1, h⟩ | ⟨h1, h2, h⟩ | ⟨h1, h2, h3, h⟩ | ⟨h1, h2, h3, h4, h⟩ | ⟨h1, h2, h3, h4, h5, h⟩ | ⟨h1, h2, h3, h4, h5, h⟩
 all_goals
  rw [h]
  clear h
  go_enter Tryz.func59, Tryz.ntmps59
  go_wp2
  go_ret
  exact ⟨rfl, (Below.refl _ _).alloc (Nat.le_refl _) _⟩
end Go.Proofs.YtdbgaccnejffpaaGreat.Ival
