/-
  The part of LexN that speaks of functions which not every seat has. By an AI agent.
  The walks of the reference's Names and Ids; slices.Contains over names. By an AI agent.
-/
import Derived.Test.YtbbjoffknoaoiaaGScanAny7
import Derived.Test.YtbbjoffknoaoiaaGScanAny8
import Derived.Test.YtbbjoffknoaoiaaGScanAny11
import Derived.Lib.IndexAny
import Derived.Test.YtbbjoffknoaoiaaGScanAny13
namespace Go.Proofs.Ytbbjoffknoaoiaa.Lex
open Go.RowKit
section
variable {P : Program} {w : World}
end

theorem refSmall (c : UInt8) (w : World) :
    Calls Try.prog 62 #[.int .u8 (c.toNat : Int)] w fun e w' => e = .returned (.bool (small c)) ∧ w' = w := by
  have h : small c = (decide ((97 : Int) ≤ (c.toNat : Int)) && decide ((c.toNat : Int) ≤ 122)) := by
    unfold small
    rw [← Bool.decide_and]
    exact decide_eq_decide.2 (by omega)
  rw [h]
  by_cases h1 : (97 : Int) ≤ (c.toNat : Int)
  all_goals
    go_enter Try.func62, Try.ntmps62
    go_wp2
    go_ret
    exact ⟨by first | (simp [h1]; done) | (simp; omega), rfl⟩

theorem refDigit (c : UInt8) (w : World) :
    Calls Try.prog 76 #[.int .u8 (c.toNat : Int)] w fun e w' => e = .returned (.bool (digit c)) ∧ w' = w := by
  have h : digit c = (decide ((48 : Int) ≤ (c.toNat : Int)) && decide ((c.toNat : Int) ≤ 57)) := by
    unfold digit
    rw [← Bool.decide_and]
    exact decide_eq_decide.2 (by omega)
  rw [h]
  by_cases h1 : (48 : Int) ≤ (c.toNat : Int)
  all_goals
    go_enter Try.func76, Try.ntmps76
    go_wp2
    go_ret
    exact ⟨by first | (simp [h1]; done) | (simp; omega), rfl⟩

set_option maxHeartbeats 8000000 in
theorem refRun (s : ByteArray) (p : Nat) (words : Bool) (w : World) (hp : p ≤ s.size) (hs : s.size ≤ maxLen) :
    Calls Try.prog 63 #[.string s, .int .i64 (p : Int), .bool words] w fun e w' => e = .returned (.int .i64 (run words (s.data.toList.drop p) : Nat)) ∧ w' = w := by
  obtain ⟨R, hR⟩ : ∃ R, run words (s.data.toList.drop p) = R := ⟨_, rfl⟩
  rw [hR]
  have hm : s.size ≤ 9223372036854775807 := by have : maxLen = 9223372036854775807 := rfl; omega
  have HR := Lib.hid (show R = 0 + run words (s.data.toList.drop (p + 0)) by rw [Nat.add_zero, hR]; omega)
  have HP := Lib.hid hp
  have HM := Lib.hid hm
  clear hs hR hp hm
  cases words
  · go_enter Try.func63, Try.ntmps63
    go_wp2
    go_loop [7] (fun i => ∃ n : Nat, p + n ≤ s.size ∧ i = .int .i64 n ∧ Hid (R = n + run false (s.data.toList.drop (p + n)))) (fun i => s.size - p - (intOf i).toNat)
    case atStart => exact ⟨0, by have := HP.out; omega, rfl, HR⟩
    case round =>
      obtain ⟨n, hn, rfl, HN⟩ := hrel
      obtain ⟨q, hq⟩ : ∃ q, p + n = q := ⟨_, rfl⟩
      rw [hq] at hn HN
      obtain ⟨e1, e2⟩ := add64 hq (by have := HM.out; omega)
      by_cases hlt : q < s.size
      · have hlt' : (q : Int) < (s.size : Int) := by omega
        have hd := drop_get s q hlt
        obtain ⟨c, hc⟩ : ∃ c, s[q] = c := ⟨_, rfl⟩
        rw [hc] at hd
        have hN := HN.out
        rw [hd] at hN
        have hpq : p + (n + 1) = q + 1 := by omega
        have hb : (n : Int) + 1 ≤ 9223372036854775807 := by have := HM.out; omega
        have hD := fun W => refDigit c W
        have hS := fun W => refSmall c W
        clear hd HN
        rcases hdig : digit c
        · rw [hdig] at hD
          have HD := Lib.hid hD
          clear hD hS
          rw [run_no (words := false) (r := s.data.toList.drop (q + 1)) hdig] at hN
          have HN := Lib.hid (show R = n by omega)
          clear hN hpq hq
          go_wp2_with (first | (go_at_call 76; refine (HD.out _).mono ?_; rintro e w' ⟨rfl, rfl⟩) | (go_at_call 62; refine (HS.out _).mono ?_; rintro e w' ⟨rfl, rfl⟩))
          go_ret
          exact ⟨by rw [HN.out]; rfl, rfl⟩
        · rw [hdig] at hD
          have HD := Lib.hid hD
          clear hD hS
          rw [run_yes (words := false) (r := s.data.toList.drop (q + 1)) hdig] at hN
          have HN := Lib.hid (show R = (n + 1) + run false (s.data.toList.drop (p + (n + 1))) by rw [hpq]; omega)
          have HQ := Lib.hid (show p + (n + 1) ≤ s.size by omega)
          clear hN hpq hq
          go_wp2_with (first | (go_at_call 76; refine (HD.out _).mono ?_; rintro e w' ⟨rfl, rfl⟩) | (go_at_call 62; refine (HS.out _).mono ?_; rintro e w' ⟨rfl, rfl⟩))
          go_round
          case rel => exact ⟨n + 1, HQ.out, by go_num, HN⟩
          case measure => have := HQ.out; simp [intOf]; omega
      · have hN := HN.out
        rw [drop_end s q (by omega)] at hN
        have HN := Lib.hid (show R = n from hN)
        have hge : decide ((q : Int) < (s.size : Int)) = false := by simp; omega
        clear hN hq
        go_wp2
        go_ret
        exact ⟨by rw [HN.out]; rfl, rfl⟩
  · go_enter Try.func63, Try.ntmps63
    go_wp2
    go_loop [7] (fun i => ∃ n : Nat, p + n ≤ s.size ∧ i = .int .i64 n ∧ Hid (R = n + run true (s.data.toList.drop (p + n)))) (fun i => s.size - p - (intOf i).toNat)
    case atStart => exact ⟨0, by have := HP.out; omega, rfl, HR⟩
    case round =>
      obtain ⟨n, hn, rfl, HN⟩ := hrel
      obtain ⟨q, hq⟩ : ∃ q, p + n = q := ⟨_, rfl⟩
      rw [hq] at hn HN
      obtain ⟨e1, e2⟩ := add64 hq (by have := HM.out; omega)
      by_cases hlt : q < s.size
      · have hlt' : (q : Int) < (s.size : Int) := by omega
        have hd := drop_get s q hlt
        obtain ⟨c, hc⟩ : ∃ c, s[q] = c := ⟨_, rfl⟩
        rw [hc] at hd
        have hN := HN.out
        rw [hd] at hN
        have hpq : p + (n + 1) = q + 1 := by omega
        have hb : (n : Int) + 1 ≤ 9223372036854775807 := by have := HM.out; omega
        have hD := fun W => refDigit c W
        have hS := fun W => refSmall c W
        clear hd HN
        rcases hdig : digit c
        · rw [hdig] at hD
          rcases hsm : small c
          · rw [hsm] at hS
            by_cases h95 : (c.toNat : Int) = 95
            · have hw : wordB c = true := by simp only [wordB, Bool.or_eq_true, decide_eq_true_eq]; exact Or.inr (by omega)
              simp only [h95] at hD hS
              have HD := Lib.hid hD
              have HS := Lib.hid hS
              clear hD hS
              rw [run_yes (words := true) (r := s.data.toList.drop (q + 1)) hw] at hN
              have HN := Lib.hid (show R = (n + 1) + run true (s.data.toList.drop (p + (n + 1))) by rw [hpq]; omega)
              have HQ := Lib.hid (show p + (n + 1) ≤ s.size by omega)
              clear hN hpq hq
              go_wp2_with (first | (go_at_call 76; refine (HD.out _).mono ?_; rintro e w' ⟨rfl, rfl⟩) | (go_at_call 62; refine (HS.out _).mono ?_; rintro e w' ⟨rfl, rfl⟩))
              go_round
              case rel => exact ⟨n + 1, HQ.out, by go_num, HN⟩
              case measure => have := HQ.out; simp [intOf]; omega
            · have hw := word_not hdig hsm h95
              have h95' : ((c.toNat : Int) == 95) = false := by simp only [beq_eq_false_iff_ne]; exact h95
              have HD := Lib.hid hD
              have HS := Lib.hid hS
              clear hD hS
              rw [run_no (words := true) (r := s.data.toList.drop (q + 1)) hw] at hN
              have HN := Lib.hid (show R = n by omega)
              clear hN hpq hq
              go_wp2_with (first | (go_at_call 76; refine (HD.out _).mono ?_; rintro e w' ⟨rfl, rfl⟩) | (go_at_call 62; refine (HS.out _).mono ?_; rintro e w' ⟨rfl, rfl⟩))
              go_ret
              exact ⟨by rw [HN.out]; rfl, rfl⟩
          · rw [hsm] at hS
            have HD := Lib.hid hD
            have HS := Lib.hid hS
            clear hD hS
            rw [run_yes (words := true) (r := s.data.toList.drop (q + 1)) (small_word hsm)] at hN
            have HN := Lib.hid (show R = (n + 1) + run true (s.data.toList.drop (p + (n + 1))) by rw [hpq]; omega)
            have HQ := Lib.hid (show p + (n + 1) ≤ s.size by omega)
            clear hN hpq hq
            go_wp2_with (first | (go_at_call 76; refine (HD.out _).mono ?_; rintro e w' ⟨rfl, rfl⟩) | (go_at_call 62; refine (HS.out _).mono ?_; rintro e w' ⟨rfl, rfl⟩))
            go_round
            case rel => exact ⟨n + 1, HQ.out, by go_num, HN⟩
            case measure => have := HQ.out; simp [intOf]; omega
        · rw [hdig] at hD
          have HD := Lib.hid hD
          clear hD hS
          rw [run_yes (words := true) (r := s.data.toList.drop (q + 1)) (digit_word hdig)] at hN
          have HN := Lib.hid (show R = (n + 1) + run true (s.data.toList.drop (p + (n + 1))) by rw [hpq]; omega)
          have HQ := Lib.hid (show p + (n + 1) ≤ s.size by omega)
          clear hN hpq hq
          go_wp2_with (first | (go_at_call 76; refine (HD.out _).mono ?_; rintro e w' ⟨rfl, rfl⟩) | (go_at_call 62; refine (HS.out _).mono ?_; rintro e w' ⟨rfl, rfl⟩))
          go_round
          case rel => exact ⟨n + 1, HQ.out, by go_num, HN⟩
          case measure => have := HQ.out; simp [intOf]; omega
      · have hN := HN.out
        rw [drop_end s q (by omega)] at hN
        have HN := Lib.hid (show R = n from hN)
        have hge : decide ((q : Int) < (s.size : Int)) = false := by simp; omega
        clear hN hq
        go_wp2
        go_ret
        exact ⟨by rw [HN.out]; rfl, rfl⟩

set_option maxRecDepth 100000 in
theorem arr_at (w : World) : ∀ k : Nat, k < 13 → (Instr.index 107 (.agg arr13) (.int .i64 (k : Int))).run Try.prog w = .ok (.string ⟨(words13.getD k []).toArray⟩) w := by
  intro k hk
  match k, hk with
  | 0, _ | 1, _ | 2, _ | 3, _ | 4, _ | 5, _ | 6, _ | 7, _ | 8, _ | 9, _ | 10, _ | 11, _ | 12, _ => rfl

set_option maxHeartbeats 2000000 in
theorem refReserved (s : ByteArray) (w : World) (hne : s.data.toList ≠ []) :
    Calls Try.prog 64 #[.string s] w fun e w' => e = .returned (.bool (decide (s.data.toList ∈ reserved))) ∧ w' = w := by
  have HE := Lib.hid hne
  clear hne
  go_enter Try.func64, Try.ntmps64
  go_wp2
  go_loop [6] (fun i => ∃ k : Nat, k ≤ 13 ∧ i = .int .i64 k ∧ Hid (∀ j, j < k → words13.getD j [] ≠ s.data.toList)) (fun i => 13 - (intOf i).toNat)
  case atStart => exact ⟨0, by omega, rfl, fun j hj => by omega⟩
  case round =>
    obtain ⟨k, hk, rfl, HN⟩ := hrel
    by_cases hlt : k < 13
    · have hlt' : (k : Int) < 13 := by omega
      have hc := fun W => arr_at W k hlt
      unfold arr13 at hc
      have HS := Lib.hid (words_in HE.out k hlt)
      obtain ⟨x, hx⟩ : ∃ x, words13.getD k [] = x := ⟨_, rfl⟩
      have HX := Lib.hid hx
      rw [hx] at hc
      clear hx
      have hcmp : (s.toList == x) = decide (s.data.toList = x) := by
        rw [ByteArray.toList_eq]
        by_cases h : s.data.toList = x
        · simp [h]
        · simp [h]
      by_cases he : s.data.toList = x
      · rw [decide_eq_true he] at hcmp
        have HR := Lib.hid (HS.out (HX.out.trans he.symm))
        clear HS HX he
        go_wp2
        go_ret
        exact ⟨by rw [HR.out]; rfl, rfl⟩
      · rw [decide_eq_false he] at hcmp
        have HR := Lib.hid (show ∀ j, j < k + 1 → words13.getD j [] ≠ s.data.toList from fun j hj => by
          by_cases hjk : j = k
          · rw [hjk, HX.out]; exact fun h => he h.symm
          · exact HN.out j (by omega))
        clear HS HX he
        go_wp2
        go_round
        case rel => exact ⟨k + 1, by omega, by go_num, HR⟩
        case measure => simp [intOf]; omega
    · have HR := Lib.hid (words_out (fun j hj => HN.out j (by omega)))
      have hge : decide ((k : Int) < 13) = false := by simp; omega
      go_wp2
      go_ret
      exact ⟨by rw [HR.out]; rfl, rfl⟩
set_option maxHeartbeats 2000000 in
theorem refName (s : ByteArray) (w : World) (hs : s.size ≤ maxLen) :
    Calls Try.prog 43 #[.string s] w fun e w' => e = .returned (.bool (nameS s.data.toList)) ∧ w' = w := by
  have hlen : s.data.toList.length = s.size := Array.length_toList
  by_cases h0 : 0 < s.size
  · have h0' : (0 : Int) < (s.size : Int) := by omega
    by_cases h16 : s.size ≤ 16
    · have h16' : (s.size : Int) ≤ 16 := by omega
      have hd := drop_get s 0 h0
      obtain ⟨c, hc⟩ : ∃ c, s[0] = c := ⟨_, rfl⟩
      rw [hc, List.drop_zero] at hd
      obtain ⟨r, hr⟩ : ∃ r, s.data.toList.drop (0 + 1) = r := ⟨_, rfl⟩
      rw [hr] at hd
      have hrl : r.length + 1 = s.size := by rw [← hlen, hd]; rfl
      have hsm := fun W => refSmall c W
      have hrun := fun W => refRun s 0 true W (by omega) hs
      have hres := fun W => refReserved s W (by rw [hd]; simp)
      rw [List.drop_zero, hd] at hrun
      rw [hd] at hres ⊢
      rw [name_is (by omega)]
      obtain ⟨n, hn⟩ : ∃ n, run true (c :: r) = n := ⟨_, rfl⟩
      rw [hn] at hrun ⊢
      rw [hrl]
      obtain ⟨b, hb⟩ : ∃ b, decide (c :: r ∈ reserved) = b := ⟨_, rfl⟩
      rw [hb] at hres ⊢
      rcases hbs : small c
      · rw [hbs] at hsm
        have HSM := Lib.hid hsm
        clear hd hr hrl hrun hres hn hb hlen hs
        go_enter Try.func43, Try.ntmps43
        go_wp2_with (go_at_call 62; refine (HSM.out _).mono ?_; rintro e w' ⟨rfl, rfl⟩)
        go_ret
        exact ⟨rfl, rfl⟩
      · rw [hbs] at hsm
        have HSM := Lib.hid hsm
        have HRUN := Lib.hid hrun
        have HRES := Lib.hid hres
        by_cases hrn : n = s.size
        · have hrn' : ((n : Int) == (s.size : Int)) = true := by simp; omega
          rw [decide_eq_true hrn]
          clear hsm hd hr hrl hrun hres hn hb hlen hs
          subst hrn
          cases b
          all_goals
            go_enter Try.func43, Try.ntmps43
            go_wp2_with (first
              | (go_at_call 62; refine (HSM.out _).mono ?_; rintro e w' ⟨rfl, rfl⟩)
              | (go_at_call 63; refine (HRUN.out _).mono ?_; rintro e w' ⟨rfl, rfl⟩)
              | (go_at_call 64; refine (HRES.out _).mono ?_; rintro e w' ⟨rfl, rfl⟩))
            go_ret
            exact ⟨rfl, rfl⟩
        · have hrn' : ((n : Int) == (s.size : Int)) = false := by simp; omega
          rw [decide_eq_false hrn]
          clear hsm hd hr hrl hrun hres hn hb hlen hs hrn
          go_enter Try.func43, Try.ntmps43
          go_wp2_with (first
            | (go_at_call 62; refine (HSM.out _).mono ?_; rintro e w' ⟨rfl, rfl⟩)
            | (go_at_call 63; refine (HRUN.out _).mono ?_; rintro e w' ⟨rfl, rfl⟩))
          go_ret
          exact ⟨rfl, rfl⟩
    · have h16' : decide ((s.size : Int) ≤ 16) = false := by simp; omega
      rw [name_not (L := s.data.toList) (by omega)]
      clear hlen hs
      go_enter Try.func43, Try.ntmps43
      go_wp2
      go_ret
      exact ⟨rfl, rfl⟩
  · have h0' : decide ((0 : Int) < (s.size : Int)) = false := by simp only [decide_eq_false_iff_not]; omega
    rw [name_not (L := s.data.toList) (by omega)]
    clear hlen hs
    go_enter Try.func43, Try.ntmps43
    go_wp2
    go_ret
    exact ⟨rfl, rfl⟩
end Go.Proofs.Ytbbjoffknoaoiaa.Lex

namespace Go.Proofs.Ytbbjoffknoaoiaa.Trace
open Go.RowKit Go.Proofs.Ytbbjoffknoaoiaa.Ints Go.Proofs.Ytbbjoffknoaoiaa.Mem

/-- slices.Contains, at a list of names. -/
theorem containsStr (A : Option Addr) (n c : Nat) (l : List (List UInt8)) (x : ByteArray) (w : World) (hl : l.length = n) (hn : n ≤ 1048576) (h : Strs w A l) :
    Calls Try.prog 44 #[.slice A n c, .string x] w fun e w' => e = .returned (.bool (decide (x.data.toList ∈ l))) ∧ w' = w := by
  subst hl
  by_cases h0 : l.length = 0
  · have : l = [] := List.eq_nil_of_length_eq_zero h0
    subst this
    exact Try.slices_Contains_string_empty A c x w
  · obtain ⟨b, off, rfl, hc⟩ := h (by omega)
    refine (Try.slices_Contains_string b off l.length c (l.map fun s => (⟨s.toArray⟩ : ByteArray)) x w (by rw [List.length_map]; exact Nat.le_refl _) (by omega) (fun j hj => ?_)).mono fun e w' ⟨he, hw⟩ => ⟨?_, hw⟩
    · rw [List.length_map] at hj
      rw [hc j _ (List.getElem?_eq_getElem hj)]
      simp [List.getD, hj, strS]
    · rw [he, List.take_of_length_le (by rw [List.length_map]; exact Nat.le_refl _)]
      congr 2
      rw [Bool.eq_iff_iff, Lib.containsS_iff, decide_eq_true_iff, List.mem_map]
      constructor
      · rintro ⟨s, hs, rfl⟩; exact hs
      · intro hx
        refine ⟨x.data.toList, hx, ?_⟩
        obtain ⟨⟨y⟩⟩ := x
        rfl
theorem strs_at {w : World} {b off : Nat} {l : List (List UInt8)} (h : ∀ (j : Nat) (s : List UInt8), l[j]? = some s → w.cell? ⟨b, off + j, none⟩ = some (strS s)) {k : Nat} (hk : k < l.length) :
    w.cell? ⟨b, off + k, none⟩ = some (.string ⟨(l.getD k []).toArray⟩) := by
  rw [h k _ (List.getElem?_eq_getElem hk)]
  simp [List.getD, hk, strS]

set_option maxHeartbeats 4000000 in
set_option maxRecDepth 100000 in
theorem refNames (A : Option Addr) (n c : Nat) (l : List (List UInt8)) (w : World) (hl : l.length = n) (hnc : n ≤ c) (h : Strs w A l) (hs : ∀ s ∈ l, s.length ≤ maxLen) :
    Calls Try.prog 47 #[.slice A n c] w fun e w' => e = .returned (.bool (namesOk l)) ∧ w' = w := by
  by_cases h64 : n ≤ 64
  · have hg : decide ((n : Int) > 64) = false := by simp; omega
    have hni : (n : Int) ≤ 64 := by omega
    have HL := Lib.hid hl
    have HD := Lib.hid h
    have HS := Lib.hid hs
    clear hl h hs
    go_enter Try.func47, Try.ntmps47
    go_wp2
    go_loop [10] (fun i => ∃ k : Nat, k ≤ n ∧ i = .int .i64 k ∧ Hid (∀ j, j < k → NameGood l j)) (fun i => n - (intOf i).toNat)
    case atStart => exact ⟨0, Nat.zero_le _, rfl, fun j hj => absurd hj (by omega)⟩
    case round =>
      obtain ⟨k, hk, rfl, HG⟩ := hrel
      by_cases hkn : k < n
      · have hkn' : (k : Int) < (n : Int) := by omega
        have hkl : k < l.length := by have := HL.out; omega
        obtain ⟨b, off, e, hc⟩ := HD.out (by omega)
        have x0 := strs_at hc hkl
        obtain ⟨s, hse⟩ : ∃ s : ByteArray, s = ⟨(l.getD k []).toArray⟩ := ⟨_, rfl⟩
        have hsd : s.data.toList = l.getD k [] := by rw [hse]
        rw [← hse] at x0
        have hsz : s.size ≤ maxLen := by
          have h1 := HS.out (l.getD k []) (by simp [List.getD, hkl])
          rw [← hsd, Array.length_toList] at h1
          exact h1
        have hN := fun W => Lex.refName s W hsz
        have hC := fun W (hb : W = w) => containsStr A k c (l.take k) s W (by rw [List.length_take]; omega) (by omega) (hb ▸ HD.out.take k)
        rw [hsd] at hN hC
        subst e
        have HKL := Lib.hid hkl
        clear hse hsd hsz hc hkl
        rcases hnm : Lex.nameS (l.getD k [])
        · have HR := Lib.hid (names_no HKL.out (fun e => by rw [e.1] at hnm; cases hnm))
          rw [hnm] at hN
          have HN := Lib.hid hN
          clear hN hC hnm
          go_wp2_with (go_at_call 43; refine (HN.out _).mono ?_; rintro e w' ⟨rfl, rfl⟩)
          go_ret
          exact ⟨by rw [HR.out]; rfl, rfl⟩
        · rw [hnm] at hN
          have HN := Lib.hid hN
          by_cases hin : l.getD k [] ∈ l.take k
          · have HR := Lib.hid (names_no HKL.out (fun e => e.2 hin))
            rw [decide_eq_true hin] at hC
            have HC := Lib.hid hC
            clear hN hC hnm hin
            go_wp2_with (first
              | (go_at_call 43; refine (HN.out _).mono ?_; rintro e w' ⟨rfl, rfl⟩)
              | (go_at_call 44; refine (HC.out _ rfl).mono ?_; rintro e w' ⟨rfl, rfl⟩))
            go_ret
            exact ⟨by rw [HR.out]; rfl, rfl⟩
          · have HZ := Lib.hid (good_more HG.out ⟨hnm, hin⟩)
            rw [decide_eq_false hin] at hC
            have HC := Lib.hid hC
            clear hN hC hnm hin
            go_wp2_with (first
              | (go_at_call 43; refine (HN.out _).mono ?_; rintro e w' ⟨rfl, rfl⟩)
              | (go_at_call 44; refine (HC.out _ rfl).mono ?_; rintro e w' ⟨rfl, rfl⟩))
            go_round
            case rel => exact ⟨k + 1, by omega, by go_num, HZ⟩
            case measure => simp [intOf]; omega
      · have hge : decide ((k : Int) < (n : Int)) = false := by simp; omega
        have HR := Lib.hid (names_yes (l := l) (by have := HL.out; omega) (fun j hj => HG.out j (by have := HL.out; omega)))
        go_wp2
        go_ret
        exact ⟨by rw [HR.out]; rfl, rfl⟩
  · have hg : decide ((n : Int) > 64) = true := by simp; omega
    have HR := Lib.hid (names_long (l := l) (by omega))
    clear hl h hs
    go_enter Try.func47, Try.ntmps47
    go_wp2
    go_ret
    exact ⟨by rw [HR.out]; rfl, rfl⟩

end Go.Proofs.Ytbbjoffknoaoiaa.Trace
