/-
  The part of LexN that speaks of functions which not every seat has. By an AI agent.
  The walks of the reference's Names and Ids; slices.Contains over names. By an AI agent.
  The walk of the reference's May (traces). By an AI agent.
  The walk of the reference's Header. By an AI agent.
-/
import Derived.Test.YtimbbfneaaglbaaGreatGHeadsPlays5
import Derived.Test.YtimbbfneaaglbaaGreatGHeadsPlays6
import Derived.Test.YtimbbfneaaglbaaGreatGHeadsPlays12
import Derived.Lib.IndexAny
import Derived.Test.YtimbbfneaaglbaaGreatGHeadsPlays15
import Derived.Test.YtimbbfneaaglbaaGreatGHeadsPlays14
namespace Go.Proofs.YtimbbfneaaglbaaGreat.Lex
open Go.RowKit
section
variable {P : Program} {w : World}
end

theorem refSmall (c : UInt8) (w : World) :
    Calls Tryz.prog 97 #[.int .u8 (c.toNat : Int)] w fun e w' => e = .returned (.bool (small c)) ∧ w' = w := by
  have h : small c = (decide ((97 : Int) ≤ (c.toNat : Int)) && decide ((c.toNat : Int) ≤ 122)) := by
    unfold small
    rw [← Bool.decide_and]
    exact decide_eq_decide.2 (by omega)
  rw [h]
  by_cases h1 : (97 : Int) ≤ (c.toNat : Int)
  all_goals
    go_enter Tryz.func97, Tryz.ntmps97
    go_wp2
    go_ret
    exact ⟨by first | (simp [h1]; done) | (simp; omega), rfl⟩

theorem refDigit (c : UInt8) (w : World) :
    Calls Tryz.prog 108 #[.int .u8 (c.toNat : Int)] w fun e w' => e = .returned (.bool (digit c)) ∧ w' = w := by
  have h : digit c = (decide ((48 : Int) ≤ (c.toNat : Int)) && decide ((c.toNat : Int) ≤ 57)) := by
    unfold digit
    rw [← Bool.decide_and]
    exact decide_eq_decide.2 (by omega)
  rw [h]
  by_cases h1 : (48 : Int) ≤ (c.toNat : Int)
  all_goals
    go_enter Tryz.func108, Tryz.ntmps108
    go_wp2
    go_ret
    exact ⟨by first | (simp [h1]; done) | (simp; omega), rfl⟩

set_option maxHeartbeats 8000000 in
theorem refRun (s : ByteArray) (p : Nat) (words : Bool) (w : World) (hp : p ≤ s.size) (hs : s.size ≤ maxLen) :
    Calls Tryz.prog 98 #[.string s, .int .i64 (p : Int), .bool words] w fun e w' => e = .returned (.int .i64 (run words (s.data.toList.drop p) : Nat)) ∧ w' = w := by
  obtain ⟨R, hR⟩ : ∃ R, run words (s.data.toList.drop p) = R := ⟨_, rfl⟩
  rw [hR]
  have hm : s.size ≤ 9223372036854775807 := by have : maxLen = 9223372036854775807 := rfl; omega
  have HR := Lib.hid (show R = 0 + run words (s.data.toList.drop (p + 0)) by rw [Nat.add_zero, hR]; omega)
  have HP := Lib.hid hp
  have HM := Lib.hid hm
  clear hs hR hp hm
  cases words
  · go_enter Tryz.func98, Tryz.ntmps98
    go_wp2
    go_loop [7] (fun i => ∃ n : Nat, p + n ≤ s.size ∧ i = .int .i64 n ∧ Hid (R = n + run false (s.data.toList.drop (p + n)))) (fun i => s.size - p - (intOf i).toNat)
    case atStart => exact ⟨0, by have := HP.out; omega, rfl, HR⟩
    case round =>
      obtain ⟨n, hn, rfl, HN⟩ := hrel
      obtain ⟨q, hq⟩ : ∃ q, p + n = q := ⟨_, rfl⟩
      rw [hq] at hn HN
      obtain ⟨e1, e2⟩ := add64 hq (by have := HM.out; omega)
      by_cases hlt : q < s.size
      · have hlt' : (q : Int) < (s.size : Int) := by omega
        have hd := drop_get s q hlt
        obtain ⟨c, hc⟩ : ∃ c, s[q] = c := ⟨_, rfl⟩
        rw [hc] at hd
        have hN := HN.out
        rw [hd] at hN
        have hpq : p + (n + 1) = q + 1 := by omega
        have hb : (n : Int) + 1 ≤ 9223372036854775807 := by have := HM.out; omega
        have hD := fun W => refDigit c W
        have hS := fun W => refSmall c W
        clear hd HN
        rcases hdig : digit c
        · rw [hdig] at hD
          have HD := Lib.hid hD
          clear hD hS
          rw [run_no (words := false) (r := s.data.toList.drop (q + 1)) hdig] at hN
          have HN := Lib.hid (show R = n by omega)
          clear hN hpq hq
          go_wp2_with (first | (go_at_call 108; refine (HD.out _).mono ?_; rintro e w' ⟨rfl, rfl⟩) | (go_at_call 97; refine (HS.out _).mono ?_; rintro e w' ⟨rfl, rfl⟩))
          go_ret
          exact ⟨by rw [HN.out]; rfl, rfl⟩
        · rw [hdig] at hD
          have HD := Lib.hid hD
          clear hD hS
          rw [run_yes (words := false) (r := s.data.toList.drop (q + 1)) hdig] at hN
          have HN := Lib.hid (show R = (n + 1) + run false (s.data.toList.drop (p + (n + 1))) by rw [hpq]; omega)
          have HQ := Lib.hid (show p + (n + 1) ≤ s.size by omega)
          clear hN hpq hq
          go_wp2_with (first | (go_at_call 108; refine (HD.out _).mono ?_; rintro e w' ⟨rfl, rfl⟩) | (go_at_call 97; refine (HS.out _).mono ?_; rintro e w' ⟨rfl, rfl⟩))
          go_round
          case rel => exact ⟨n + 1, HQ.out, by go_num, HN⟩
          case measure => have := HQ.out; simp [intOf]; omega
      · have hN := HN.out
        rw [drop_end s q (by omega)] at hN
        have HN := Lib.hid (show R = n from hN)
        have hge : decide ((q : Int) < (s.size : Int)) = false := by simp; omega
        clear hN hq
        go_wp2
        go_ret
        exact ⟨by rw [HN.out]; rfl, rfl⟩
  · go_enter Tryz.func98, Tryz.ntmps98
    go_wp2
    go_loop [7] (fun i => ∃ n : Nat, p + n ≤ s.size ∧ i = .int .i64 n ∧ Hid (R = n + run true (s.data.toList.drop (p + n)))) (fun i => s.size - p - (intOf i).toNat)
    case atStart => exact ⟨0, by have := HP.out; omega, rfl, HR⟩
    case round =>
      obtain ⟨n, hn, rfl, HN⟩ := hrel
      obtain ⟨q, hq⟩ : ∃ q, p + n = q := ⟨_, rfl⟩
      rw [hq] at hn HN
      obtain ⟨e1, e2⟩ := add64 hq (by have := HM.out; omega)
      by_cases hlt : q < s.size
      · have hlt' : (q : Int) < (s.size : Int) := by omega
        have hd := drop_get s q hlt
        obtain ⟨c, hc⟩ : ∃ c, s[q] = c := ⟨_, rfl⟩
        rw [hc] at hd
        have hN := HN.out
        rw [hd] at hN
        have hpq : p + (n + 1) = q + 1 := by omega
        have hb : (n : Int) + 1 ≤ 9223372036854775807 := by have := HM.out; omega
        have hD := fun W => refDigit c W
        have hS := fun W => refSmall c W
        clear hd HN
        rcases hdig : digit c
        · rw [hdig] at hD
          rcases hsm : small c
          · rw [hsm] at hS
            by_cases h95 : (c.toNat : Int) = 95
            · have hw : wordB c = true := by simp only [wordB, Bool.or_eq_true, decide_eq_true_eq]; exact Or.inr (by omega)
              simp only [h95] at hD hS
              have HD := Lib.hid hD
              have HS := Lib.hid hS
              clear hD hS
              rw [run_yes (words := true) (r := s.data.toList.drop (q + 1)) hw] at hN
              have HN := Lib.hid (show R = (n + 1) + run true (s.data.toList.drop (p + (n + 1))) by rw [hpq]; omega)
              have HQ := Lib.hid (show p + (n + 1) ≤ s.size by omega)
              clear hN hpq hq
              go_wp2_with (first | (go_at_call 108; refine (HD.out _).mono ?_; rintro e w' ⟨rfl, rfl⟩) | (go_at_call 97; refine (HS.out _).mono ?_; rintro e w' ⟨rfl, rfl⟩))
              go_round
              case rel => exact ⟨n + 1, HQ.out, by go_num, HN⟩
              case measure => have := HQ.out; simp [intOf]; omega
            · have hw := word_not hdig hsm h95
              have h95' : ((c.toNat : Int) == 95) = false := by simp only [beq_eq_false_iff_ne]; exact h95
              have HD := Lib.hid hD
              have HS := Lib.hid hS
              clear hD hS
              rw [run_no (words := true) (r := s.data.toList.drop (q + 1)) hw] at hN
              have HN := Lib.hid (show R = n by omega)
              clear hN hpq hq
              go_wp2_with (first | (go_at_call 108; refine (HD.out _).mono ?_; rintro e w' ⟨rfl, rfl⟩) | (go_at_call 97; refine (HS.out _).mono ?_; rintro e w' ⟨rfl, rfl⟩))
              go_ret
              exact ⟨by rw [HN.out]; rfl, rfl⟩
          · rw [hsm] at hS
            have HD := Lib.hid hD
            have HS := Lib.hid hS
            clear hD hS
            rw [run_yes (words := true) (r := s.data.toList.drop (q + 1)) (small_word hsm)] at hN
            have HN := Lib.hid (show R = (n + 1) + run true (s.data.toList.drop (p + (n + 1))) by rw [hpq]; omega)
            have HQ := Lib.hid (show p + (n + 1) ≤ s.size by omega)
            clear hN hpq hq
            go_wp2_with (first | (go_at_call 108; refine (HD.out _).mono ?_; rintro e w' ⟨rfl, rfl⟩) | (go_at_call 97; refine (HS.out _).mono ?_; rintro e w' ⟨rfl, rfl⟩))
            go_round
            case rel => exact ⟨n + 1, HQ.out, by go_num, HN⟩
            case measure => have := HQ.out; simp [intOf]; omega
        · rw [hdig] at hD
          have HD := Lib.hid hD
          clear hD hS
          rw [run_yes (words := true) (r := s.data.toList.drop (q + 1)) (digit_word hdig)] at hN
          have HN := Lib.hid (show R = (n + 1) + run true (s.data.toList.drop (p + (n + 1))) by rw [hpq]; omega)
          have HQ := Lib.hid (show p + (n + 1) ≤ s.size by omega)
          clear hN hpq hq
          go_wp2_with (first | (go_at_call 108; refine (HD.out _).mono ?_; rintro e w' ⟨rfl, rfl⟩) | (go_at_call 97; refine (HS.out _).mono ?_; rintro e w' ⟨rfl, rfl⟩))
          go_round
          case rel => exact ⟨n + 1, HQ.out, by go_num, HN⟩
          case measure => have := HQ.out; simp [intOf]; omega
      · have hN := HN.out
        rw [drop_end s q (by omega)] at hN
        have HN := Lib.hid (show R = n from hN)
        have hge : decide ((q : Int) < (s.size : Int)) = false := by simp; omega
        clear hN hq
        go_wp2
        go_ret
        exact ⟨by rw [HN.out]; rfl, rfl⟩

set_option maxRecDepth 100000 in
theorem arr_at (w : World) : ∀ k : Nat, k < 13 → (Instr.index 138 (.agg arr13) (.int .i64 (k : Int))).run Tryz.prog w = .ok (.string ⟨(words13.getD k []).toArray⟩) w := by
  intro k hk
  match k, hk with
  | 0, _ | 1, _ | 2, _ | 3, _ | 4, _ | 5, _ | 6, _ | 7, _ | 8, _ | 9, _ | 10, _ | 11, _ | 12, _ => rfl

set_option maxHeartbeats 2000000 in
theorem refReserved (s : ByteArray) (w : World) (hne : s.data.toList ≠ []) :
    Calls Tryz.prog 99 #[.string s] w fun e w' => e = .returned (.bool (decide (s.data.toList ∈ reserved))) ∧ w' = w := by
  have HE := Lib.hid hne
  clear hne
  go_enter Tryz.func99, Tryz.ntmps99
  go_wp2
  go_loop [6] (fun i => ∃ k : Nat, k ≤ 13 ∧ i = .int .i64 k ∧ Hid (∀ j, j < k → words13.getD j [] ≠ s.data.toList)) (fun i => 13 - (intOf i).toNat)
  case atStart => exact ⟨0, by omega, rfl, fun j hj => by omega⟩
  case round =>
    obtain ⟨k, hk, rfl, HN⟩ := hrel
    by_cases hlt : k < 13
    · have hlt' : (k : Int) < 13 := by omega
      have hc := fun W => arr_at W k hlt
      unfold arr13 at hc
      have HS := Lib.hid (words_in HE.out k hlt)
      obtain ⟨x, hx⟩ : ∃ x, words13.getD k [] = x := ⟨_, rfl⟩
      have HX := Lib.hid hx
      rw [hx] at hc
      clear hx
      have hcmp : (s.toList == x) = decide (s.data.toList = x) := by
        rw [ByteArray.toList_eq]
        by_cases h : s.data.toList = x
        · simp [h]
        · simp [h]
      by_cases he : s.data.toList = x
      · rw [decide_eq_true he] at hcmp
        have HR := Lib.hid (HS.out (HX.out.trans he.symm))
        clear HS HX he
        go_wp2
        go_ret
        exact ⟨by rw [HR.out]; rfl, rfl⟩
      · rw [decide_eq_false he] at hcmp
        have HR := Lib.hid (show ∀ j, j < k + 1 → words13.getD j [] ≠ s.data.toList from fun j hj => by
          by_cases hjk : j = k
          · rw [hjk, HX.out]; exact fun h => he h.symm
          · exact HN.out j (by omega))
        clear HS HX he
        go_wp2
        go_round
        case rel => exact ⟨k + 1, by omega, by go_num, HR⟩
        case measure => simp [intOf]; omega
    · have HR := Lib.hid (words_out (fun j hj => HN.out j (by omega)))
      have hge : decide ((k : Int) < 13) = false := by simp; omega
      go_wp2
      go_ret
      exact ⟨by rw [HR.out]; rfl, rfl⟩
set_option maxHeartbeats 2000000 in
theorem refName (s : ByteArray) (w : World) (hs : s.size ≤ maxLen) :
    Calls Tryz.prog 80 #[.string s] w fun e w' => e = .returned (.bool (nameS s.data.toList)) ∧ w' = w := by
  have hlen : s.data.toList.length = s.size := Array.length_toList
  by_cases h0 : 0 < s.size
  · have h0' : (0 : Int) < (s.size : Int) := by omega
    by_cases h16 : s.size ≤ 16
    · have h16' : (s.size : Int) ≤ 16 := by omega
      have hd := drop_get s 0 h0
      obtain ⟨c, hc⟩ : ∃ c, s[0] = c := ⟨_, rfl⟩
      rw [hc, List.drop_zero] at hd
      obtain ⟨r, hr⟩ : ∃ r, s.data.toList.drop (0 + 1) = r := ⟨_, rfl⟩
      rw [hr] at hd
      have hrl : r.length + 1 = s.size := by rw [← hlen, hd]; rfl
      have hsm := fun W => refSmall c W
      have hrun := fun W => refRun s 0 true W (by omega) hs
      have hres := fun W => refReserved s W (by rw [hd]; simp)
      rw [List.drop_zero, hd] at hrun
      rw [hd] at hres ⊢
      rw [name_is (by omega)]
      obtain ⟨n, hn⟩ : ∃ n, run true (c :: r) = n := ⟨_, rfl⟩
      rw [hn] at hrun ⊢
      rw [hrl]
      obtain ⟨b, hb⟩ : ∃ b, decide (c :: r ∈ reserved) = b := ⟨_, rfl⟩
      rw [hb] at hres ⊢
      rcases hbs : small c
      · rw [hbs] at hsm
        have HSM := Lib.hid hsm
        clear hd hr hrl hrun hres hn hb hlen hs
        go_enter Tryz.func80, Tryz.ntmps80
        go_wp2_with (go_at_call 97; refine (HSM.out _).mono ?_; rintro e w' ⟨rfl, rfl⟩)
        go_ret
        exact ⟨rfl, rfl⟩
      · rw [hbs] at hsm
        have HSM := Lib.hid hsm
        have HRUN := Lib.hid hrun
        have HRES := Lib.hid hres
        by_cases hrn : n = s.size
        · have hrn' : ((n : Int) == (s.size : Int)) = true := by simp; omega
          rw [decide_eq_true hrn]
          clear hsm hd hr hrl hrun hres hn hb hlen hs
          subst hrn
          cases b
          all_goals
            go_enter Tryz.func80, Tryz.ntmps80
            go_wp2_with (first
              | (go_at_call 97; refine (HSM.out _).mono ?_; rintro e w' ⟨rfl, rfl⟩)
              | (go_at_call 98; refine (HRUN.out _).mono ?_; rintro e w' ⟨rfl, rfl⟩)
              | (go_at_call 99; refine (HRES.out _).mono ?_; rintro e w' ⟨rfl, rfl⟩))
            go_ret
            exact ⟨rfl, rfl⟩
        · have hrn' : ((n : Int) == (s.size : Int)) = false := by simp; omega
          rw [decide_eq_false hrn]
          clear hsm hd hr hrl hrun hres hn hb hlen hs hrn
          go_enter Tryz.func80, Tryz.ntmps80
          go_wp2_with (first
            | (go_at_call 97; refine (HSM.out _).mono ?_; rintro e w' ⟨rfl, rfl⟩)
            | (go_at_call 98; refine (HRUN.out _).mono ?_; rintro e w' ⟨rfl, rfl⟩))
          go_ret
          exact ⟨rfl, rfl⟩
    · have h16' : decide ((s.size : Int) ≤ 16) = false := by simp; omega
      rw [name_not (L := s.data.toList) (by omega)]
      clear hlen hs
      go_enter Tryz.func80, Tryz.ntmps80
      go_wp2
      go_ret
      exact ⟨rfl, rfl⟩
  · have h0' : decide ((0 : Int) < (s.size : Int)) = false := by simp only [decide_eq_false_iff_not]; omega
    rw [name_not (L := s.data.toList) (by omega)]
    clear hlen hs
    go_enter Tryz.func80, Tryz.ntmps80
    go_wp2
    go_ret
    exact ⟨rfl, rfl⟩
end Go.Proofs.YtimbbfneaaglbaaGreat.Lex

namespace Go.Proofs.YtimbbfneaaglbaaGreat.Trace
open Go.RowKit Go.Proofs.YtimbbfneaaglbaaGreat.Ints Go.Proofs.YtimbbfneaaglbaaGreat.Mem

/-- slices.Contains, at a list of names. -/
theorem containsStr (A : Option Addr) (n c : Nat) (l : List (List UInt8)) (x : ByteArray) (w : World) (hl : l.length = n) (hn : n ≤ 1048576) (h : Strs w A l) :
    Calls Tryz.prog 81 #[.slice A n c, .string x] w fun e w' => e = .returned (.bool (decide (x.data.toList ∈ l))) ∧ w' = w := by
  subst hl
  by_cases h0 : l.length = 0
  · have : l = [] := List.eq_nil_of_length_eq_zero h0
    subst this
    exact Tryz.slices_Contains_string_empty A c x w
  · obtain ⟨b, off, rfl, hc⟩ := h (by omega)
    refine (Tryz.slices_Contains_string b off l.length c (l.map fun s => (⟨s.toArray⟩ : ByteArray)) x w (by rw [List.length_map]; exact Nat.le_refl _) (by omega) (fun j hj => ?_)).mono fun e w' ⟨he, hw⟩ => ⟨?_, hw⟩
    · rw [List.length_map] at hj
      rw [hc j _ (List.getElem?_eq_getElem hj)]
      simp [List.getD, hj, strS]
    · rw [he, List.take_of_length_le (by rw [List.length_map]; exact Nat.le_refl _)]
      congr 2
      rw [Bool.eq_iff_iff, Lib.containsS_iff, decide_eq_true_iff, List.mem_map]
      constructor
      · rintro ⟨s, hs, rfl⟩; exact hs
      · intro hx
        refine ⟨x.data.toList, hx, ?_⟩
        obtain ⟨⟨y⟩⟩ := x
        rfl
theorem strs_at {w : World} {b off : Nat} {l : List (List UInt8)} (h : ∀ (j : Nat) (s : List UInt8), l[j]? = some s → w.cell? ⟨b, off + j, none⟩ = some (strS s)) {k : Nat} (hk : k < l.length) :
    w.cell? ⟨b, off + k, none⟩ = some (.string ⟨(l.getD k []).toArray⟩) := by
  rw [h k _ (List.getElem?_eq_getElem hk)]
  simp [List.getD, hk, strS]

set_option maxHeartbeats 4000000 in
set_option maxRecDepth 100000 in
theorem refNames (A : Option Addr) (n c : Nat) (l : List (List UInt8)) (w : World) (hl : l.length = n) (hnc : n ≤ c) (h : Strs w A l) (hs : ∀ s ∈ l, s.length ≤ maxLen) :
    Calls Tryz.prog 54 #[.slice A n c] w fun e w' => e = .returned (.bool (namesOk l)) ∧ w' = w := by
  by_cases h64 : n ≤ 64
  · have hg : decide ((n : Int) > 64) = false := by simp; omega
    have hni : (n : Int) ≤ 64 := by omega
    have HL := Lib.hid hl
    have HD := Lib.hid h
    have HS := Lib.hid hs
    clear hl h hs
    go_enter Tryz.func54, Tryz.ntmps54
    go_wp2
    go_loop [10] (fun i => ∃ k : Nat, k ≤ n ∧ i = .int .i64 k ∧ Hid (∀ j, j < k → NameGood l j)) (fun i => n - (intOf i).toNat)
    case atStart => exact ⟨0, Nat.zero_le _, rfl, fun j hj => absurd hj (by omega)⟩
    case round =>
      obtain ⟨k, hk, rfl, HG⟩ := hrel
      by_cases hkn : k < n
      · have hkn' : (k : Int) < (n : Int) := by omega
        have hkl : k < l.length := by have := HL.out; omega
        obtain ⟨b, off, e, hc⟩ := HD.out (by omega)
        have x0 := strs_at hc hkl
        obtain ⟨s, hse⟩ : ∃ s : ByteArray, s = ⟨(l.getD k []).toArray⟩ := ⟨_, rfl⟩
        have hsd : s.data.toList = l.getD k [] := by rw [hse]
        rw [← hse] at x0
        have hsz : s.size ≤ maxLen := by
          have h1 := HS.out (l.getD k []) (by simp [List.getD, hkl])
          rw [← hsd, Array.length_toList] at h1
          exact h1
        have hN := fun W => Lex.refName s W hsz
        have hC := fun W (hb : W = w) => containsStr A k c (l.take k) s W (by rw [List.length_take]; omega) (by omega) (hb ▸ HD.out.take k)
        rw [hsd] at hN hC
        subst e
        have HKL := Lib.hid hkl
        clear hse hsd hsz hc hkl
        rcases hnm : Lex.nameS (l.getD k [])
        · have HR := Lib.hid (names_no HKL.out (fun e => by rw [e.1] at hnm; cases hnm))
          rw [hnm] at hN
          have HN := Lib.hid hN
          clear hN hC hnm
          go_wp2_with (go_at_call 80; refine (HN.out _).mono ?_; rintro e w' ⟨rfl, rfl⟩)
          go_ret
          exact ⟨by rw [HR.out]; rfl, rfl⟩
        · rw [hnm] at hN
          have HN := Lib.hid hN
          by_cases hin : l.getD k [] ∈ l.take k
          · have HR := Lib.hid (names_no HKL.out (fun e => e.2 hin))
            rw [decide_eq_true hin] at hC
            have HC := Lib.hid hC
            clear hN hC hnm hin
            go_wp2_with (first
              | (go_at_call 80; refine (HN.out _).mono ?_; rintro e w' ⟨rfl, rfl⟩)
              | (go_at_call 81; refine (HC.out _ rfl).mono ?_; rintro e w' ⟨rfl, rfl⟩))
            go_ret
            exact ⟨by rw [HR.out]; rfl, rfl⟩
          · have HZ := Lib.hid (good_more HG.out ⟨hnm, hin⟩)
            rw [decide_eq_false hin] at hC
            have HC := Lib.hid hC
            clear hN hC hnm hin
            go_wp2_with (first
              | (go_at_call 80; refine (HN.out _).mono ?_; rintro e w' ⟨rfl, rfl⟩)
              | (go_at_call 81; refine (HC.out _ rfl).mono ?_; rintro e w' ⟨rfl, rfl⟩))
            go_round
            case rel => exact ⟨k + 1, by omega, by go_num, HZ⟩
            case measure => simp [intOf]; omega
      · have hge : decide ((k : Int) < (n : Int)) = false := by simp; omega
        have HR := Lib.hid (names_yes (l := l) (by have := HL.out; omega) (fun j hj => HG.out j (by have := HL.out; omega)))
        go_wp2
        go_ret
        exact ⟨by rw [HR.out]; rfl, rfl⟩
  · have hg : decide ((n : Int) > 64) = true := by simp; omega
    have HR := Lib.hid (names_long (l := l) (by omega))
    clear hl h hs
    go_enter Tryz.func54, Tryz.ntmps54
    go_wp2
    go_ret
    exact ⟨by rw [HR.out]; rfl, rfl⟩

end Go.Proofs.YtimbbfneaaglbaaGreat.Trace

namespace Go.Proofs.YtimbbfneaaglbaaGreat.Trace
open Go.RowKit Go.Proofs.YtimbbfneaaglbaaGreat.Ints Go.Proofs.YtimbbfneaaglbaaGreat.Mem

/-- The box of a trace, in a new block. -/
abbrev boxT (w : World) (NA : Option Addr) (nn nc : Nat) (EA : Option Addr) (ne ec : Nat) : World := w.alloc (.cells #[.slice NA nn nc, .slice EA ne ec] 33)
theorem boxT_at {w W : World} {NA EA : Option Addr} {nn nc ne ec : Nat} (hb : Below (w.heap.size + 1) (boxT w NA nn nc EA ne ec) W) :
    W.cell? ⟨w.heap.size, 0, none⟩ = some (.slice NA nn nc) ∧ W.cell? ⟨w.heap.size, 1, none⟩ = some (.slice EA ne ec) := by
  have h0 : (boxT w NA nn nc EA ne ec).cell? ⟨w.heap.size, 0, none⟩ = some (.slice NA nn nc) := box_cell 0 _ rfl
  have h1 : (boxT w NA nn nc EA ne ec).cell? ⟨w.heap.size, 1, none⟩ = some (.slice EA ne ec) := box_cell 1 _ rfl
  exact ⟨(hb.cell (p := ⟨w.heap.size, 0, none⟩) (by show w.heap.size < w.heap.size + 1; omega)).trans h0, (hb.cell (p := ⟨w.heap.size, 1, none⟩) (by show w.heap.size < w.heap.size + 1; omega)).trans h1⟩
theorem boxT_below {w W : World} {NA EA : Option Addr} {nn nc ne ec : Nat} (hb : Below (w.heap.size + 1) (boxT w NA nn nc EA ne ec) W) : Below w.heap.size w W :=
  ((Below.refl w.heap.size w).alloc (Nat.le_refl _) _).trans (hb.mono (by omega))

set_option maxHeartbeats 4000000 in
set_option maxRecDepth 100000 in
theorem refMay (NA : Option Addr) (nn nc : Nat) (EA : Option Addr) (ne ec : Nat) (t : Tr) (w : World) (h : TrOk Any w NA nn nc EA ne ec t) :
    Calls Tryz.prog 26 #[.agg #[.slice NA nn nc, .slice EA ne ec]] w fun e w' => e = .returned (.bool (mayT t)) ∧ Below w.heap.size w w' := by
  have hm : maxLen = 9223372036854775807 := rfl
  have hni : (nn : Int) ≤ 9223372036854775807 := by have := h.ncap; omega
  have hei : (ne : Int) ≤ 9223372036854775807 := by have := h.ecap; omega
  have HD := Lib.hid h
  have hN := fun W (hb : Below w.heap.size w W) => refNames NA nn nc t.names W h.nlen h.ncap.1 (h.names.below hb) h.sizes
  obtain ⟨ns, hns⟩ : ∃ b, namesOk t.names = b := ⟨_, rfl⟩
  rw [hns] at hN
  have HN := Lib.hid hN
  cases ns
  · have HR := Lib.hid (show mayT t = false by unfold mayT; rw [hns]; rfl)
    clear h hN hns hm
    go_enter Tryz.func26, Tryz.ntmps26
    go_wp2_with (go_at_call 54; refine (HN.out _ ((Below.refl _ _).alloc (Nat.le_refl _) _)).mono ?_; rintro e w' ⟨rfl, rfl⟩)
    go_ret
    exact ⟨by rw [HR.out]; rfl, (Below.refl _ _).alloc (Nat.le_refl _) _⟩
  · have HE := Lib.hid (show mayT t = evsOk t.events (nn : Int) by unfold mayT; rw [hns, h.nlen]; rfl)
    clear h hN hns hm
    go_enter Tryz.func26, Tryz.ntmps26
    go_wp2_with (go_at_call 54; refine (HN.out _ ((Below.refl _ _).alloc (Nat.le_refl _) _)).mono ?_; rintro e w' ⟨rfl, rfl⟩)
    go_loopw [12] (fun i wr => ∃ k : Nat, k ≤ ne ∧ i = .int .i64 k ∧ Hid (∀ j, j < k → EvGood t.events (nn : Int) j) ∧ Below (w.heap.size + 1) (boxT w NA nn nc EA ne ec) wr) (fun i _ => ne - (intOf i).toNat)
    case atStart => exact ⟨0, Nat.zero_le _, rfl, fun j hj => absurd hj (by omega), Below.refl _ _⟩
    case round =>
      obtain ⟨k, hk, rfl, HG, hB⟩ := hrel
      obtain ⟨t0, t1⟩ := boxT_at hB
      have t0' : ∀ o : Obj, (wr.alloc o).cell? ⟨w.heap.size, 0, none⟩ = some (.slice NA nn nc) := fun o => Lib.cell?_alloc_marked o t0
      have t1' : ∀ o : Obj, (wr.alloc o).cell? ⟨w.heap.size, 1, none⟩ = some (.slice EA ne ec) := fun o => Lib.cell?_alloc_marked o t1
      have HB := Lib.hid hB
      have HBS : w.heap.size + 1 ≤ wr.heap.size := by have := hB.size; simpa [boxT] using this
      clear hB
      by_cases hkn : k < ne
      · have hkn' : (k : Int) < (ne : Int) := by omega
        have hk0 : (0 : Int) ≤ (k : Int) := by omega
        have HW := HD.out.below (boxT_below HB.out)
        have hlen : k < t.events.length := by rw [HW.elen]; exact hkn
        obtain ⟨b, off, e, hc⟩ := HW.evs (by omega)
        obtain ⟨x0, hw, K, c, x1, hK, hKc, hcK, -, -⟩ := hc k _ (List.getElem?_eq_getElem hlen)
        have hg : t.events.getD k noEv = t.events[k] := by simp [List.getD, hlen]
        rw [← hg] at x0 hw x1 hK hKc
        obtain ⟨ev, hev⟩ : ∃ ev, t.events.getD k noEv = ev := ⟨_, rfl⟩
        rw [hev] at x0 hw x1 hK hKc
        rw [Nat.mul_comm 2 k] at x0 x1
        have hI := fun W (hb : Below wr.heap.size wr W) => refIds K ev.ids.length c (nn : Int) ev.ids W (hK.below hb) (Nat.le_trans hKc hcK) ⟨by omega, hni⟩
        obtain ⟨q, hq⟩ : ∃ q, ev.ids.length = q := ⟨_, rfl⟩
        rw [hq] at hI x1
        have HLEN := Lib.hid hlen
        have HEV := Lib.hid hev
        subst e
        obtain ⟨hw1, hw2⟩ := wf_u64 hw
        rcases hid : idsOk ev.ids (nn : Int)
        · have HR := Lib.hid (evs_no (p := (nn : Int)) hlen (fun e => by have := e.1; rw [hev, hid] at this; cases this))
          rw [hid] at hI
          have HI := Lib.hid hI
          clear hI hid hc hg hlen hev hw hK hKc hcK HW hq
          go_wp2
          go_quiet ((go_at_call 55; refine (HI.out _ (below_drewN ((Below.refl _ _).alloc (Nat.le_refl _) _) _)).mono ?_; rintro e w' ⟨rfl, rfl⟩; exact ⟨rfl, _, rfl⟩))
          go_wp2
          go_ret
          exact ⟨by rw [HE.out, HR.out]; rfl, below_drewN ((boxT_below HB.out).alloc (boxT_below HB.out).size _) _⟩
        · rw [hid] at hI
          have HI := Lib.hid hI
          by_cases h0 : k = 0
          · have HZ := Lib.hid (good_more HG.out (p := EvGood t.events (nn : Int)) (k := k) ⟨by rw [hev]; exact hid, fun h => absurd h (by omega)⟩)
            clear hI hid hc hg hlen hev hw hK hKc hcK HW hq
            subst h0
            rw [Nat.zero_mul, Nat.add_zero] at x0 x1
            have hn0 : (0 : Int) < (ne : Int) := by omega
            go_wp2
            go_quiet ((go_at_call 55; refine (HI.out _ (below_drewN ((Below.refl _ _).alloc (Nat.le_refl _) _) _)).mono ?_; rintro e w' ⟨rfl, rfl⟩; exact ⟨rfl, _, rfl⟩))
            go_wp2
            go_roundw
            case rel => exact ⟨1, by omega, by go_num, HZ, below_drewN (HB.out.alloc HBS _) _⟩
            case measure => simp [intOf]; omega
          · have h0' : decide ((k : Int) > 0) = true := by simp; omega
            obtain ⟨y0, hv, -, -, -, -, -, -, -, -⟩ := hc (k - 1) _ (List.getElem?_eq_getElem (by omega))
            have hg2 : t.events.getD (k - 1) noEv = t.events[k - 1]'(by omega) := by simp [List.getD, show k - 1 < t.events.length by omega]
            rw [← hg2] at y0 hv
            obtain ⟨fv, hfv⟩ : ∃ fv, t.events.getD (k - 1) noEv = fv := ⟨_, rfl⟩
            rw [hfv] at y0 hv
            rw [Nat.mul_comm 2 (k - 1)] at y0
            have y0' : ∀ o : Obj, (wr.alloc o).cell? ⟨b, off + (k - 1) * 2, none⟩ = some (.int .u64 fv.time) := fun o => Lib.cell?_alloc_marked o y0
            have hk1 : (k : Int) - 1 = ((k - 1 : Nat) : Int) := by omega
            have hk2 : ((k - 1 : Nat) : Int) < (ne : Int) := by omega
            have hk3 : (0 : Int) ≤ ((k - 1 : Nat) : Int) := by omega
            have hk4 : IntKind.i64.wrap ((k : Int) - 1) = ((k - 1 : Nat) : Int) := by rw [hk1]; simp only [IntKind.wrap, IntKind.bits, IntKind.signed]; simp; omega
            have hkp : (0 : Int) < (k : Int) := by omega
            have hkp' : 0 < k := by omega
            by_cases h3 : ev.time < fv.time
            · have HR := Lib.hid (evs_no (p := (nn : Int)) hlen (fun e => by have := e.2 (by omega); rw [hev, hfv] at this; omega))
              clear hI hid hc hg hg2 hlen hev hfv hw hv hK hKc hcK HW hq
              go_wp2
              go_quiet ((go_at_call 55; refine (HI.out _ (below_drewN ((Below.refl _ _).alloc (Nat.le_refl _) _) _)).mono ?_; rintro e w' ⟨rfl, rfl⟩; exact ⟨rfl, _, rfl⟩))
              go_wp2
              go_ret
              exact ⟨by rw [HE.out, HR.out]; rfl, below_drewN ((boxT_below HB.out).alloc (boxT_below HB.out).size _) _⟩
            · have h3' : decide (ev.time < fv.time) = false := decide_eq_false h3
              have HZ := Lib.hid (good_more HG.out (p := EvGood t.events (nn : Int)) (k := k) ⟨by rw [hev]; exact hid, fun _ => by rw [hev, hfv]; omega⟩)
              clear hI hid hc hg hg2 hlen hev hfv hw hv hK hKc hcK HW hq
              go_wp2
              go_quiet ((go_at_call 55; refine (HI.out _ (below_drewN ((Below.refl _ _).alloc (Nat.le_refl _) _) _)).mono ?_; rintro e w' ⟨rfl, rfl⟩; exact ⟨rfl, _, rfl⟩))
              go_wp2
              go_roundw
              case rel => exact ⟨k + 1, by omega, by go_num, HZ, below_drewN (HB.out.alloc HBS _) _⟩
              case measure => simp [intOf]; omega
      · have hge : decide ((k : Int) < (ne : Int)) = false := by simp; omega
        have HR := Lib.hid (evs_yes (l := t.events) (p := (nn : Int)) (fun j hj => HG.out j (by have := HD.out.elen; omega)))
        go_wp2
        go_ret
        exact ⟨by rw [HE.out, HR.out]; rfl, boxT_below HB.out⟩
end Go.Proofs.YtimbbfneaaglbaaGreat.Trace

namespace Go.Proofs.YtimbbfneaaglbaaGreat.Log
open Go.RowKit Go.Proofs.YtimbbfneaaglbaaGreat.Ints Go.Proofs.YtimbbfneaaglbaaGreat.Mem Go.Proofs.YtimbbfneaaglbaaGreat.SumMath Go.Proofs.YtimbbfneaaglbaaGreat.SumWalks Go.Proofs.YtimbbfneaaglbaaGreat.Trace Go.Proofs.YtimbbfneaaglbaaGreat.Record

theorem info5s : (Tryz.prog.info? 5).map (fun i => (i.zero, i.size, i.bytes)) = some (some (.int .u8 0), 1, 1) := by kernel_rfl
theorem strs_cell {w : World} {A : Option Addr} {l : List (List UInt8)} (h : Strs w A l) {k : Nat} (hk : k < l.length) :
    ∃ b off, A = some ⟨b, off, none⟩ ∧ w.cell? ⟨b, off + k, none⟩ = some (.string ⟨(l.getD k []).toArray⟩) := by
  obtain ⟨b, off, e, hc⟩ := h (by omega)
  refine ⟨b, off, e, ?_⟩
  have := hc k _ (List.getElem?_eq_getElem hk)
  rw [this]
  simp [strS, List.getD, hk]

set_option maxHeartbeats 4000000 in
set_option maxRecDepth 100000 in
theorem refHeader (A : Option Addr) (n c : Nat) (l : List (List UInt8)) (w : World) (hl : l.length = n) (hn : n ≤ 64) (h : Strs w A l) (hs : ∀ s ∈ l, s.length ≤ 16) :
    Calls Tryz.prog 27 #[.slice A n c] w (GotBytes w (headL l)) := by
  obtain ⟨i0, hi, hz0, hz1, hz2⟩ := info_parts info5s
  have q63 : maxLen = 9223372036854775807 := rfl
  have HS := Lib.hid hs
  have HD := Lib.hid h
  have HL := Lib.hid hl
  have hnm : (n : Int) % 256 = (n : Int) := by omega
  have HNM := Lib.hid hnm
  obtain ⟨F, hF⟩ : ∃ F : Nat → List Int, F = fun k => [87, 71, 76, 1, (n : Int)] ++ (l.take k).flatMap nameB := ⟨_, rfl⟩
  have hF0 : F 0 = [87, 71, 76, 1, (n : Int)] := by rw [hF]; simp
  have hFn : F n = frontL l := by rw [hF]; unfold frontL; rw [hl, hnm]; simp only; rw [List.take_of_length_le (by omega)]
  have hFs : ∀ k, k < n → F (k + 1) = F k ++ nameB (l.getD k []) := fun k hk => by rw [hF]; simp only; rw [flat_next l k (by omega), List.append_assoc]
  have hFl : ∀ k, k ≤ n → (F k).length ≤ 5 + 17 * 64 := fun k hk => by
    rw [hF]
    simp only [List.length_append]
    have := flat_len (names := l.take k) (m := 16) (fun s h => hs s (List.mem_of_mem_take h))
    have e : (l.take k).length ≤ 64 := by rw [List.length_take]; omega
    have : ([87, 71, 76, 1, (n : Int)] : List Int).length = 5 := rfl
    omega
  have HF0 := Lib.hid hF0
  have HFn := Lib.hid hFn
  have HFs := Lib.hid hFs
  have HFl := Lib.hid hFl
  have HHB := Lib.hid (u8_all (front_bytes l))
  clear hF hF0 hFn hFs hFl hnm hs h hl
  go_enter Tryz.func27, Tryz.ntmps27
  go_wp2
  go_loopw [3, 12] (fun v i wr => ∃ k : Nat, k ≤ n ∧ i = .int .i64 k ∧ wr.ownsRow w.heap.size 5 1 v (F k).length ((F k).map (Value.int .u8)) ∧ Below w.heap.size w wr) (fun _ i _ => n - (intOf i).toNat)
  case atStart =>
    refine ⟨0, Nat.zero_le _, rfl, ?_, (Below.refl _ _).alloc (Nat.le_refl _) _⟩
    rw [HF0.out]
    exact own_lit w w.heap.size 5 .u8 [87, 71, 76, 1, (n : Int)] 5 rfl (by decide) (Nat.le_refl _)
  case round =>
    obtain ⟨k, hk, rfl, hrow, hBr⟩ := hrel
    have hsz := hBr.size
    by_cases hkn : k < n
    · obtain ⟨b, off, rfl, hcell⟩ := strs_cell (HD.out.below hBr) (k := k) (by rw [HL.out]; exact hkn)
      have hgl : (l.getD k []).length ≤ 16 := HS.out _ (by
        have hk2 : k < l.length := by rw [HL.out]; exact hkn
        have e : l.getD k [] = l[k] := by simp [List.getD, hk2]
        rw [e]; exact List.getElem_mem _)
      have HN := Lib.hid (HFs.out k hkn)
      have hfl := HFl.out k hk
      obtain ⟨sb, hsb⟩ : ∃ sb : ByteArray, (⟨(l.getD k []).toArray⟩ : ByteArray) = sb := ⟨_, rfl⟩
      have hsz2 : sb.size ≤ 16 := by rw [← hsb]; show (l.getD k []).toArray.size ≤ 16; simpa using hgl
      have hdl : sb.data.toList = l.getD k [] := by rw [← hsb]
      rw [hsb] at hcell
      have HDL := Lib.hid hdl
      have hlen : sb.size = (l.getD k []).length := by rw [← hdl]; exact Array.length_toList.symm
      have HLN := Lib.hid hlen
      have HROW := Lib.hid hrow
      obtain ⟨fl, hfl2⟩ : ∃ fl, (F k).length = fl := ⟨_, rfl⟩
      rw [hfl2] at HROW hfl
      have HFL2 := Lib.hid hfl2
      clear hsb hdl hlen hrow hfl2 hgl
      go_wp2_with (first
        | (at_builtin; refine wpList_append_str rfl _ _ 28 9 rfl w.heap.size 5 i0 Tryz.underlying28 Tryz.underlying9 hi hz0 hz1 hz2 _ _ _ rfl hown2 sb rfl (by omega) (by omega) hsz3 ?_; intro v4 w4 hown4 hgr4)
        | (at_builtin; refine wpList_append_ints rfl _ _ 28 rfl .u8 w.heap.size 5 i0 1 Tryz.underlying28 hi hz0 hz1 hz2 _ _ _ rfl (HROW.out.alloc _) _ 1 1 [(sb.size : Int)] rfl (Rd.lit wr 5 (0, 0) [(sb.size : Int)] (one_byte (by omega))) (by omega) (by omega) (le_alloc hsz) ?_; intro v2 w2 hown2 hgr2; have hB2 := (hBr.alloc hsz (.cells #[.int .u8 (sb.size : Int)] 5)).grown hgr2 (le_alloc hsz) (fun q hq => (HROW.out.lt q hq).1); have hsz3 := hB2.size))
      go_roundw
      case rel =>
        refine ⟨k + 1, by omega, by go_num, ?_, hB2.grown hgr4 hsz3 (fun q hq => (hown2.lt q hq).1)⟩
        have e1 : F (k + 1) = F k ++ [(sb.size : Int)] ++ toI sb.data.toList := by
          rw [HN.out, HDL.out, List.append_assoc]
          have e2 : ((l.getD k []).length : Int) % 256 = (sb.size : Int) := by have := HLN.out; omega
          unfold nameB
          rw [e2]
          rfl
        rw [e1]
        exact row_more (by rw [List.length_append, List.length_append, size_toI, HFL2.out]; rfl) rfl hown4
      case measure => simp [intOf]; omega
    · obtain rfl : k = n := by omega
      have hfl := HFl.out k hk
      rw [HFn.out] at hrow hfl
      obtain ⟨A2, c2, rfl, hc2, hm2, -, -⟩ := own_slice hrow
      have hrd := Rd.own hrow HHB.out
      obtain ⟨fl, hfl2⟩ : ∃ fl, (frontL l).length = fl := ⟨_, rfl⟩
      rw [hfl2] at hrd hc2 hfl ⊢
      have FP := Lib.hid (refPut A2 fl c2 (frontL l) wr (by omega) hrd)
      have HB := Lib.hid hBr
      have HFL := Lib.hid hfl2
      clear hrow hBr hrd hfl2
      go_wp2_with fail
      refine FP.out.mono ?_
      intro e w5 hmade
      obtain ⟨v5, rfl, hown5, hB5⟩ := hmade
      go_wp2
      go_ret
      refine ⟨_, rfl, row_more ?_ rfl (own_weaken hown5 HB.out.size), HB.out.trans (hB5.mono HB.out.size)⟩
      unfold headL
      rw [List.length_append, HFL.out]
      rfl
end Go.Proofs.YtimbbfneaaglbaaGreat.Log
