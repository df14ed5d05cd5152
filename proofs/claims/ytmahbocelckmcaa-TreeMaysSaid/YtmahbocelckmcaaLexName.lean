/-
  The walks of the reference's Reserved and Name. By an AI agent.
-/
import Derived.Test.YtmahbocelckmcaaLexRun
namespace Go.Proofs.Ytmahbocelckmcaa.Lex
open Go.RowKit

def words13 : List (List UInt8) := reserved ++ [[]]
theorem words_in {L : List UInt8} (hne : L ≠ []) (k : Nat) (hk : k < 13) (h : words13.getD k [] = L) : decide (L ∈ reserved) = true := by
  rw [decide_eq_true_iff]
  have hm : L ∈ words13 := by
    rw [← h, List.getD_eq_getElem?_getD, List.getElem?_eq_getElem (show k < words13.length from hk)]
    exact List.getElem_mem _
  rcases List.mem_append.1 hm with h1 | h1
  · exact h1
  · exact absurd (List.mem_singleton.1 h1) hne
theorem words_out {L : List UInt8} (h : ∀ j, j < 13 → words13.getD j [] ≠ L) : decide (L ∈ reserved) = false := by
  rw [decide_eq_false_iff_not]
  intro hm
  obtain ⟨j, hj, he⟩ := List.mem_iff_getElem.1 hm
  have hj' : j < 12 := hj
  refine h j (by omega) ?_
  rw [List.getD_eq_getElem?_getD, words13, List.getElem?_append_left hj, List.getElem?_eq_getElem hj]
  exact he
def arr13 : Array Value := #[.string { data := #[116, 114, 117, 101] }, .string { data := #[102, 97, 108, 115, 101] }, .string { data := #[112, 114, 101, 118] }, .string { data := #[110, 101, 120, 116] }, .string { data := #[111, 110, 99, 101] }, .string { data := #[104, 105, 115, 116] }, .string { data := #[115, 111, 109, 101] }, .string { data := #[97, 108, 108] }, .string { data := #[115, 105, 110, 99, 101] }, .string { data := #[117, 110, 116, 105, 108] }, .string { data := #[98, 97, 99, 107] }, .string { data := #[102, 111, 114, 101] }, .string { data := #[] }]
set_option maxRecDepth 100000 in
theorem arr_at (w : World) : ∀ k : Nat, k < 13 → (Instr.index 95 (.agg arr13) (.int .i64 (k : Int))).run Try.prog w = .ok (.string ⟨(words13.getD k []).toArray⟩) w := by
  intro k hk
  match k, hk with
  | 0, _ | 1, _ | 2, _ | 3, _ | 4, _ | 5, _ | 6, _ | 7, _ | 8, _ | 9, _ | 10, _ | 11, _ | 12, _ => rfl

set_option maxHeartbeats 2000000 in
theorem refReserved (s : ByteArray) (w : World) (hne : s.data.toList ≠ []) :
    Calls Try.prog 67 #[.string s] w fun e w' => e = .returned (.bool (decide (s.data.toList ∈ reserved))) ∧ w' = w := by
  have HE := Lib.hid hne
  clear hne
  go_enter Try.func67, Try.ntmps67
  go_wp2
  go_loop [6] (fun i => ∃ k : Nat, k ≤ 13 ∧ i = .int .i64 k ∧ Hid (∀ j, j < k → words13.getD j [] ≠ s.data.toList)) (fun i => 13 - (intOf i).toNat)
  case atStart => exact ⟨0, by omega, rfl, fun j hj => by omega⟩
  case round =>
    obtain ⟨k, hk, rfl, HN⟩ := hrel
    by_cases hlt : k < 13
    · have hlt' : (k : Int) < 13 := by omega
      have hc := fun W => arr_at W k hlt
      unfold arr13 at hc
      have HS := Lib.hid (words_in HE.out k hlt)
      obtain ⟨x, hx⟩ : ∃ x, words13.getD k [] = x := ⟨_, rfl⟩
      have HX := Lib.hid hx
      rw [hx] at hc
      clear hx
      have hcmp : (s.toList == x) = decide (s.data.toList = x) := by
        rw [ByteArray.toList_eq]
        by_cases h : s.data.toList = x
        · simp [h]
        · simp [h]
      by_cases he : s.data.toList = x
      · rw [decide_eq_true he] at hcmp
        have HR := Lib.hid (HS.out (HX.out.trans he.symm))
        clear HS HX he
        go_wp2
        go_ret
        exact ⟨by rw [HR.out]; rfl, rfl⟩
      · rw [decide_eq_false he] at hcmp
        have HR := Lib.hid (show ∀ j, j < k + 1 → words13.getD j [] ≠ s.data.toList from fun j hj => by
          by_cases hjk : j = k
          · rw [hjk, HX.out]; exact fun h => he h.symm
          · exact HN.out j (by omega))
        clear HS HX he
        go_wp2
        go_round
        case rel => exact ⟨k + 1, by omega, by go_num, HR⟩
        case measure => simp [intOf]; omega
    · have HR := Lib.hid (words_out (fun j hj => HN.out j (by omega)))
      have hge : decide ((k : Int) < 13) = false := by simp; omega
      go_wp2
      go_ret
      exact ⟨by rw [HR.out]; rfl, rfl⟩
theorem name_not {L : List UInt8} (h : L.length = 0 ∨ 16 < L.length) : nameS L = false := by
  cases L with
  | nil => rfl
  | cons c r =>
    simp only [List.length_cons] at h
    simp only [nameS]
    rw [decide_eq_false (show ¬ r.length + 1 ≤ 16 by omega)]
    rfl
theorem name_is {c : UInt8} {r : List UInt8} (h : r.length + 1 ≤ 16) : nameS (c :: r) = (small c && decide (run true (c :: r) = r.length + 1) && !(decide (c :: r ∈ reserved))) := by
  simp only [nameS]
  rw [decide_eq_true h, Bool.true_and]

set_option maxHeartbeats 2000000 in
theorem refName (s : ByteArray) (w : World) (hs : s.size ≤ maxLen) :
    Calls Try.prog 50 #[.string s] w fun e w' => e = .returned (.bool (nameS s.data.toList)) ∧ w' = w := by
  have hlen : s.data.toList.length = s.size := Array.length_toList
  by_cases h0 : 0 < s.size
  · have h0' : (0 : Int) < (s.size : Int) := by omega
    by_cases h16 : s.size ≤ 16
    · have h16' : (s.size : Int) ≤ 16 := by omega
      have hd := drop_get s 0 h0
      obtain ⟨c, hc⟩ : ∃ c, s[0] = c := ⟨_, rfl⟩
      rw [hc, List.drop_zero] at hd
      obtain ⟨r, hr⟩ : ∃ r, s.data.toList.drop (0 + 1) = r := ⟨_, rfl⟩
      rw [hr] at hd
      have hrl : r.length + 1 = s.size := by rw [← hlen, hd]; rfl
      have hsm := fun W => refSmall c W
      have hrun := fun W => refRun s 0 true W (by omega) hs
      have hres := fun W => refReserved s W (by rw [hd]; simp)
      rw [List.drop_zero, hd] at hrun
      rw [hd] at hres ⊢
      rw [name_is (by omega)]
      obtain ⟨n, hn⟩ : ∃ n, run true (c :: r) = n := ⟨_, rfl⟩
      rw [hn] at hrun ⊢
      rw [hrl]
      obtain ⟨b, hb⟩ : ∃ b, decide (c :: r ∈ reserved) = b := ⟨_, rfl⟩
      rw [hb] at hres ⊢
      rcases hbs : small c
      · rw [hbs] at hsm
        have HSM := Lib.hid hsm
        clear hd hr hrl hrun hres hn hb hlen hs
        go_enter Try.func50, Try.ntmps50
        go_wp2_with (go_at_call 65; refine (HSM.out _).mono ?_; rintro e w' ⟨rfl, rfl⟩)
        go_ret
        exact ⟨rfl, rfl⟩
      · rw [hbs] at hsm
        have HSM := Lib.hid hsm
        have HRUN := Lib.hid hrun
        have HRES := Lib.hid hres
        by_cases hrn : n = s.size
        · have hrn' : ((n : Int) == (s.size : Int)) = true := by simp; omega
          rw [decide_eq_true hrn]
          clear hsm hd hr hrl hrun hres hn hb hlen hs
          subst hrn
          cases b
          all_goals
            go_enter Try.func50, Try.ntmps50
            go_wp2_with (first
              | (go_at_call 65; refine (HSM.out _).mono ?_; rintro e w' ⟨rfl, rfl⟩)
              | (go_at_call 66; refine (HRUN.out _).mono ?_; rintro e w' ⟨rfl, rfl⟩)
              | (go_at_call 67; refine (HRES.out _).mono ?_; rintro e w' ⟨rfl, rfl⟩))
            go_ret
            exact ⟨rfl, rfl⟩
        · have hrn' : ((n : Int) == (s.size : Int)) = false := by simp; omega
          rw [decide_eq_false hrn]
          clear hsm hd hr hrl hrun hres hn hb hlen hs hrn
          go_enter Try.func50, Try.ntmps50
          go_wp2_with (first
            | (go_at_call 65; refine (HSM.out _).mono ?_; rintro e w' ⟨rfl, rfl⟩)
            | (go_at_call 66; refine (HRUN.out _).mono ?_; rintro e w' ⟨rfl, rfl⟩))
          go_ret
          exact ⟨rfl, rfl⟩
    · have h16' : decide ((s.size : Int) ≤ 16) = false := by simp; omega
      rw [name_not (L := s.data.toList) (by omega)]
      clear hlen hs
      go_enter Try.func50, Try.ntmps50
      go_wp2
      go_ret
      exact ⟨rfl, rfl⟩
  · have h0' : decide ((0 : Int) < (s.size : Int)) = false := by simp only [decide_eq_false_iff_not]; omega
    rw [name_not (L := s.data.toList) (by omega)]
    clear hlen hs
    go_enter Try.func50, Try.ntmps50
    go_wp2
    go_ret
    exact ⟨rfl, rfl⟩
end Go.Proofs.Ytmahbocelckmcaa.Lex
