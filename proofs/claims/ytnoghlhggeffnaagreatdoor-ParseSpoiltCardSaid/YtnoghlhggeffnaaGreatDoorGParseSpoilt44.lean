/-
  The walk of the reference's Lex. By an AI agent.
-/
import Derived.Test.YtnoghlhggeffnaaGreatDoorGParseSpoilt43
namespace Go.Proofs.YtnoghlhggeffnaaGreatDoor.Lex
open Go.RowKit

set_option maxHeartbeats 8000000 in
set_option maxRecDepth 100000 in
theorem refLex (s : ByteArray) (w : World) (hs : s.size ≤ maxLen) :
    Calls Tryz.prog 42 #[.string s] w (LexPost w s.data.toList) := by
  obtain ⟨i0, hi, hz0, hz1, hz2⟩ := info_parts infoTok
  have hlen : s.data.toList.length = s.size := Array.length_toList
  by_cases hbig : 2000 < s.size
  · have hbig' : (2000 : Int) < (s.size : Int) := by omega
    have HP := Lib.hid (post_many (w := w) (L := s.data.toList) (by omega))
    clear hlen hbig
    go_enter Tryz.func42, Tryz.ntmps42
    go_wp2
    go_ret3
    exact HP.out
  · have HL := Lib.hid (show ¬ 2000 < s.data.toList.length by omega)
    have hbig' : (s.size : Int) ≤ 2000 := by omega
    have HZ := Lib.hid (show s.size ≤ 2000 by omega)
    have HSM := Lib.hid hs
    obtain ⟨R, hR⟩ : ∃ R, lexAt 0 s.data.toList = R := ⟨_, rfl⟩
    have HR := Lib.hid (show R = (lexAt 0 (s.data.toList.drop 0)).before [] by rw [before_nil, List.drop_zero, hR])
    have HR0 := Lib.hid hR
    clear hlen hbig hs hR
    go_enter Tryz.func42, Tryz.ntmps42
    go_wp2
    go_loopw [5, 6] (fun v i wr => ∃ (p : Nat) (acc : List Tk), p ≤ s.size ∧ acc.length ≤ p ∧ i = .int .i64 p ∧ wr.ownsRow w.heap.size 74 4 v acc.length (rowTk acc) ∧ Below w.heap.size w wr ∧ Hid (R = (lexAt p (s.data.toList.drop p)).before acc)) (fun _ i _ => s.size - (intOf i).toNat)
    case atStart => exact ⟨0, [], Nat.zero_le _, Nat.le_refl _, rfl, World.ownsRow_nil _ _ _ _, Below.refl _ _, HR⟩
    case round =>
      obtain ⟨p, acc, hp, hacc, rfl, hown, hB, HN⟩ := hrel
      have HO := Lib.hid hown
      have HB := Lib.hid hB
      clear hown hB
      by_cases hlt : p < s.size
      · have hlt' : (p : Int) < (s.size : Int) := by omega
        have hd := drop_get s p hlt
        obtain ⟨c, hc⟩ : ∃ c, s[p] = c := ⟨_, rfl⟩
        rw [hc] at hd
        obtain ⟨r, hr⟩ : ∃ r, s.data.toList.drop (p + 1) = r := ⟨_, rfl⟩
        rw [hr] at hd
        have HD := Lib.hid hd
        have HRR := Lib.hid hr
        have hz := HZ.out
        have hb : (p : Int) + 1 ≤ 9223372036854775807 := by omega
        have HACC := Lib.hid (show acc.length ≤ 2000 by omega)
        have HSZ := Lib.hid (show p + 1 ≤ s.size by omega)
        clear hd hr hz
        have hSM := fun W => refSmall c W
        have hDG := fun W => refDigit c W
        have hSG := fun W => refSign c W
        by_cases h32 : c.toNat = 32
        · have h32' : (c.toNat : Int) = 32 := by omega
          have HBL := Or.inl (b := c.toNat = 10) h32
          clear hSM hDG hSG h32
          have HN2 := Lib.hid (show R = (lexAt (p + 1) (s.data.toList.drop (p + 1))).before (acc ++ []) from lex_step HD.out HN.out (piece_blank r (is_blank HBL)))
          clear HN HD HBL
          go_wp2_with fail
          go_roundw
          case rel => exact ⟨p + 1, acc, HSZ.out, by omega, by go_num, HO.out, HB.out, by have := HN2.out; rw [List.append_nil] at this; exact this⟩
          case measure => simp [intOf]; omega
        · by_cases h10 : c.toNat = 10
          · have h10' : (c.toNat : Int) = 10 := by omega
            have HBL := Or.inr (a := c.toNat = 32) h10
            have h32' : ((c.toNat : Int) == 32) = false := by simp only [beq_eq_false_iff_ne]; omega
            clear hSM hDG hSG h10 h32
            have HN2 := Lib.hid (show R = (lexAt (p + 1) (s.data.toList.drop (p + 1))).before (acc ++ []) from lex_step HD.out HN.out (piece_blank r (is_blank HBL)))
            clear HN HD HBL
            go_wp2_with fail
            go_roundw
            case rel => exact ⟨p + 1, acc, HSZ.out, by omega, by go_num, HO.out, HB.out, by have := HN2.out; rw [List.append_nil] at this; exact this⟩
            case measure => simp [intOf]; omega
          · have h32' : ((c.toNat : Int) == 32) = false := by simp only [beq_eq_false_iff_ne]; omega
            have h10' : ((c.toNat : Int) == 10) = false := by simp only [beq_eq_false_iff_ne]; omega
            have HNB := Lib.hid (not_blank h32 h10)
            clear h32 h10
            rcases hsm : small c
            · rw [hsm] at hSM
              rcases hdg : digit c
              · rw [hdg] at hDG
                by_cases h45 : c.toNat = 45
                · have h45' : (c.toNat : Int) = 45 := by omega
                  rw [dash_sign h45] at hSG
                  simp only [h45'] at hSM hDG hSG
                  have HSM1 := Lib.hid hSM
                  have HDG1 := Lib.hid hDG
                  have HSG1 := Lib.hid hSG
                  clear hSM hDG hSG
                  by_cases hp1 : p + 1 < s.size
                  · have hp1' : (p : Int) + 1 < (s.size : Int) := by omega
                    have e1 := add64 (p := p) (n := 1) rfl (by omega)
                    have hd2 := drop_get s (p + 1) hp1
                    rw [HRR.out] at hd2
                    obtain ⟨d, hdd⟩ : ∃ d, s[p + 1] = d := ⟨_, rfl⟩
                    rw [hdd] at hd2
                    by_cases h62 : d.toNat = 62
                    · have h62' : (d.toNat : Int) = 62 := by omega
                      have HN2 := Lib.hid (show R = (lexAt (p + 2) (s.data.toList.drop (p + 2))).before (acc ++ [⟨3, [45, 62], 0, p⟩]) from lex_step (n := 2) (t := some (3, [45, 62], 0)) HD.out HN.out (by rw [hd2]; exact piece_arrow h45 h62))
                      have HSZ2 := Lib.hid (show p + 2 ≤ s.size by omega)
                      have hb2 : (p : Int) + 2 ≤ 9223372036854775807 := by omega
                      clear HN HD hd2 HRR h62 h45
                      go_wp2_with (first
                                | (go_at_call 30; refine (HSM1.out _).mono ?_; rintro e w' ⟨rfl, rfl⟩)
                                | (go_at_call 46; refine (HDG1.out _).mono ?_; rintro e w' ⟨rfl, rfl⟩)
                                | (go_at_call 53; refine (HSG1.out _).mono ?_; rintro e w' ⟨rfl, rfl⟩)
                                | (go_at_call 31; refine (HRUN.out _).mono ?_; rintro e w' ⟨rfl, rfl⟩)
                                | (at_builtin; refine wpList_append_tok rfl _ _ 63 rfl w.heap.size 74 i0 _ 40 Tryz.underlying63 hi hz0 hz1 hz2 rfl _ acc rfl HO.out ⟨3, [45, 62], 0, p⟩ _ _ (by first | rfl | (rw [HX.out]; rfl) | (rw [HV.out]; rfl)) rfl HACC.out (by decide) HB.out.size ?_; intro v3 w3 hown3 hgr3))
                      go_roundw
                      case rel => exact ⟨p + 2, acc ++ [⟨3, [45, 62], 0, p⟩], HSZ2.out, by rw [List.length_append, List.length_singleton]; omega, by go_num, hown3, (HB.out.alloc HB.out.size _).grown hgr3 (by have := HB.out.size; simp; omega) (fun k hk => (HO.out.lt k hk).1), HN2⟩
                      case measure => simp [intOf]; omega
                    · have h62' : ((d.toNat : Int) == 62) = false := by simp only [beq_eq_false_iff_ne]; omega
                      have HN2 := Lib.hid (lex_stop HD.out HN.out (piece_dash h45 (fun x hx => by rw [hd2] at hx; cases hx; exact h62)))
                      clear HN HD hd2 HRR h62 h45
                      go_wp2_with (first
                                | (go_at_call 30; refine (HSM1.out _).mono ?_; rintro e w' ⟨rfl, rfl⟩)
                                | (go_at_call 46; refine (HDG1.out _).mono ?_; rintro e w' ⟨rfl, rfl⟩)
                                | (go_at_call 53; refine (HSG1.out _).mono ?_; rintro e w' ⟨rfl, rfl⟩)
                                | (go_at_call 31; refine (HRUN.out _).mono ?_; rintro e w' ⟨rfl, rfl⟩))
                      go_ret3
                      exact post_bad HL.out (HR0.out.trans HN2.out) HB.out
                  · have hp1' : decide ((p : Int) + 1 < (s.size : Int)) = false := by simp; omega
                    have e1 := add64 (p := p) (n := 1) rfl (by omega)
                    have HN2 := Lib.hid (lex_stop HD.out HN.out (piece_dash h45 (fun x hx => by rw [← HRR.out, drop_end s (p + 1) (by omega)] at hx; cases hx)))
                    clear HN HD HRR h45 hp1
                    go_wp2_with (first
                              | (go_at_call 30; refine (HSM1.out _).mono ?_; rintro e w' ⟨rfl, rfl⟩)
                              | (go_at_call 46; refine (HDG1.out _).mono ?_; rintro e w' ⟨rfl, rfl⟩)
                              | (go_at_call 53; refine (HSG1.out _).mono ?_; rintro e w' ⟨rfl, rfl⟩)
                              | (go_at_call 31; refine (HRUN.out _).mono ?_; rintro e w' ⟨rfl, rfl⟩))
                    go_ret3
                    exact post_bad HL.out (HR0.out.trans HN2.out) HB.out
                · have h45' : ((c.toNat : Int) == 45) = false := by simp only [beq_eq_false_iff_ne]; omega
                  have HPS := Lib.hid (piece_sign (r := r) HNB.out hsm hdg h45)
                  clear h45
                  rcases hsg : isSign c
                  · rw [hsg] at hSG
                    have HN2 := Lib.hid (lex_stop HD.out HN.out (HPS.out.2 hsg))
                    clear HN HD HRR HPS
                    have HSM1 := Lib.hid hSM
                    have HDG1 := Lib.hid hDG
                    have HSG1 := Lib.hid hSG
                    clear hSM hDG hSG
                    go_wp2_with (first
                              | (go_at_call 30; refine (HSM1.out _).mono ?_; rintro e w' ⟨rfl, rfl⟩)
                              | (go_at_call 46; refine (HDG1.out _).mono ?_; rintro e w' ⟨rfl, rfl⟩)
                              | (go_at_call 53; refine (HSG1.out _).mono ?_; rintro e w' ⟨rfl, rfl⟩)
                              | (go_at_call 31; refine (HRUN.out _).mono ?_; rintro e w' ⟨rfl, rfl⟩))
                    go_ret3
                    exact post_bad HL.out (HR0.out.trans HN2.out) HB.out
                  · rw [hsg] at hSG
                    have HN2 := Lib.hid (show R = (lexAt (p + 1) (s.data.toList.drop (p + 1))).before (acc ++ [⟨3, [c], 0, p⟩]) from lex_step HD.out HN.out (HPS.out.1 hsg))
                    obtain ⟨X, hX⟩ : ∃ X, s.extract p (p + 1) = X := ⟨_, rfl⟩
                    have HX := Lib.hid (show X = bytes [c] by rw [← hX, extract_bytes s p 1 (p + 1) rfl, HD.out]; rfl)
                    have e1 := add64 (p := p) (n := 1) rfl (by omega)
                    clear HN HD HRR HPS
                    have HSM1 := Lib.hid hSM
                    have HDG1 := Lib.hid hDG
                    have HSG1 := Lib.hid hSG
                    clear hSM hDG hSG
                    go_wp2_with (first
                              | (go_at_call 30; refine (HSM1.out _).mono ?_; rintro e w' ⟨rfl, rfl⟩)
                              | (go_at_call 46; refine (HDG1.out _).mono ?_; rintro e w' ⟨rfl, rfl⟩)
                              | (go_at_call 53; refine (HSG1.out _).mono ?_; rintro e w' ⟨rfl, rfl⟩)
                              | (go_at_call 31; refine (HRUN.out _).mono ?_; rintro e w' ⟨rfl, rfl⟩)
                              | (at_builtin; refine wpList_append_tok rfl _ _ 63 rfl w.heap.size 74 i0 _ 40 Tryz.underlying63 hi hz0 hz1 hz2 rfl _ acc rfl HO.out ⟨3, [c], 0, p⟩ _ _ (by first | rfl | (rw [HX.out]; rfl) | (rw [HV.out]; rfl)) rfl HACC.out (by decide) HB.out.size ?_; intro v3 w3 hown3 hgr3))
                    go_roundw
                    case rel => exact ⟨p + 1, acc ++ [⟨3, [c], 0, p⟩], HSZ.out, by rw [List.length_append, List.length_singleton]; omega, by go_num, hown3, (HB.out.alloc HB.out.size _).grown hgr3 (by have := HB.out.size; simp; omega) (fun k hk => (HO.out.lt k hk).1), HN2⟩
                    case measure => simp [intOf]; omega
              · rw [hdg] at hDG
                have HSM1 := Lib.hid hSM
                have HDG1 := Lib.hid hDG
                have HSG1 := Lib.hid hSG
                clear hSM hDG hSG
                obtain ⟨n, hn⟩ : ∃ n, run false (c :: r) = n := ⟨_, rfl⟩
                have hrun := fun W => refRun s p false W hp HSM.out
                rw [HD.out, hn] at hrun
                have HRUN := Lib.hid hrun
                have HPD := Lib.hid (piece_digits HNB.out hsm hdg hn)
                have hn1 : 1 ≤ n ∧ p + n ≤ s.size := ⟨by rw [← hn]; exact run_pos hdg, by
                  have h1 := run_le false (c :: r)
                  rw [hn, ← HD.out, List.length_drop, Array.length_toList] at h1
                  have : s.data.size = s.size := rfl
                  omega⟩
                have HRD := Lib.hid hn
                clear hrun hn
                by_cases h4 : 4 < n
                · have h4' : (4 : Int) < (n : Int) := by omega
                  have HN2 := Lib.hid (lex_stop HD.out HN.out (HPD.out.1 (Or.inl h4)))
                  clear HN HD HRR HPD HRD h4
                  go_wp2_with (first
                            | (go_at_call 30; refine (HSM1.out _).mono ?_; rintro e w' ⟨rfl, rfl⟩)
                            | (go_at_call 46; refine (HDG1.out _).mono ?_; rintro e w' ⟨rfl, rfl⟩)
                            | (go_at_call 53; refine (HSG1.out _).mono ?_; rintro e w' ⟨rfl, rfl⟩)
                            | (go_at_call 31; refine (HRUN.out _).mono ?_; rintro e w' ⟨rfl, rfl⟩))
                  go_ret3
                  exact post_bad HL.out (HR0.out.trans HN2.out) HB.out
                · have h4' : decide ((4 : Int) < (n : Int)) = false := by simp; omega
                  by_cases h48 : c.toNat = 48
                  · have h48' : (c.toNat : Int) = 48 := by omega
                    simp only [h48'] at HSM1 HDG1 HSG1
                    by_cases hn1' : 1 < n
                    · have hn1'' : (1 : Int) < (n : Int) := by omega
                      have HN2 := Lib.hid (lex_stop HD.out HN.out (HPD.out.1 (Or.inr ⟨h48, hn1'⟩)))
                      clear HN HD HRR HPD HRD h4 h48 hn1'
                      go_wp2_with (first
                                | (go_at_call 30; refine (HSM1.out _).mono ?_; rintro e w' ⟨rfl, rfl⟩)
                                | (go_at_call 46; refine (HDG1.out _).mono ?_; rintro e w' ⟨rfl, rfl⟩)
                                | (go_at_call 53; refine (HSG1.out _).mono ?_; rintro e w' ⟨rfl, rfl⟩)
                                | (go_at_call 31; refine (HRUN.out _).mono ?_; rintro e w' ⟨rfl, rfl⟩))
                      go_ret3
                      exact post_bad HL.out (HR0.out.trans HN2.out) HB.out
                    · have hn1'' : decide ((1 : Int) < (n : Int)) = false := by simp; omega
                      have hq : ¬ (4 < n ∨ c.toNat = 48 ∧ 1 < n) := by omega
                      clear h48 hn1'
                      have HN2 := Lib.hid (lex_step HD.out HN.out (HPD.out.2 hq))
                      obtain ⟨V, hV⟩ : ∃ V, numOf ((c :: r).take n) = V := ⟨_, rfl⟩
                      rw [hV] at HN2
                      have HV := Lib.hid hV
                      have hb3 : (p : Int) + (n : Int) ≤ 9223372036854775807 := by have := HZ.out; omega
                      have e3 := add64 (p := p) (n := n) rfl (by have := HZ.out; omega)
                      have hn4 : n ≤ 4 := by omega
                      have HSZ3 := Lib.hid hn1.2
                      clear HN HRR HPD hV hq h4
                      go_wp2_with (first
                                | (go_at_call 30; refine (HSM1.out _).mono ?_; rintro e w' ⟨rfl, rfl⟩)
                                | (go_at_call 46; refine (HDG1.out _).mono ?_; rintro e w' ⟨rfl, rfl⟩)
                                | (go_at_call 53; refine (HSG1.out _).mono ?_; rintro e w' ⟨rfl, rfl⟩)
                                | (go_at_call 31; refine (HRUN.out _).mono ?_; rintro e w' ⟨rfl, rfl⟩))
                      go_loop [9, 67] (fun x i => ∃ k : Nat, k ≤ n ∧ i = .int .i64 k ∧ x = .int .i64 (numOf ((c :: r).take k) : Nat)) (fun _ i => n - (intOf i).toNat)
                      case atStart => exact ⟨0, Nat.zero_le _, rfl, by rw [List.take_zero]; rfl⟩
                      case round =>
                        obtain ⟨k, hk, rfl, rfl⟩ := hrel
                        by_cases hkn : k < n
                        · have hkn' : (k : Int) < (n : Int) := by omega
                          have hk1 : k + 1 ≤ n := by omega
                          have hpk : p + k < s.size := by have := HSZ3.out; omega
                          obtain ⟨q, hq⟩ : ∃ q, p + k = q := ⟨_, rfl⟩
                          have hqs' : q < s.size := by omega
                          have hqs : (q : Int) < (s.size : Int) := Int.ofNat_lt.2 hqs'
                          have e4 := add64 hq (by have := HZ.out; omega)
                          have hg := get_drop s p k hpk
                          obtain ⟨d, hd1, hd2⟩ := run_digits (c :: r) k (by rw [HRD.out]; exact hkn)
                          have hlt := numOf_lt k (c :: r) (by rw [HRD.out]; exact hk)
                          have hstep := numOf_take (c :: r) k d hd1
                          have hpow : 10 ^ k ≤ 10 ^ 4 := Nat.pow_le_pow_right (by decide) (Nat.le_trans hk hn4)
                          rw [HD.out, hd1] at hg
                          have hgd : s[q]'hqs' = d := by subst hq; exact (Option.some.inj hg).symm
                          obtain ⟨x, hx⟩ : ∃ x, numOf ((c :: r).take k) = x := ⟨_, rfl⟩
                          rw [hx] at hlt hstep ⊢
                          simp only [digit, decide_eq_true_eq] at hd2
                          obtain ⟨y, hy⟩ : ∃ y, d.toNat - 48 = y := ⟨_, rfl⟩
                          rw [hy] at hstep
                          obtain ⟨e5, e6, e7, e8⟩ := num_facts (Nat.lt_of_lt_of_le hlt hpow) hd2 hy
                          have HST := Lib.hid hstep
                          clear hstep hd1 hg hpow hq hpk hd2 hx hy hlt
                          go_wp2_with fail
                          go_round
                          case rel =>
                            refine ⟨k + 1, hk1, by go_num, ?_⟩
                            rw [HST.out, Int.natCast_add, Int.natCast_mul]
                            exact congrArg (Value.int .i64) e8
                          case measure =>
                            clear e4 e5 e6 e7 e8 e3 hb3
                            simp [intOf]; omega
                        · have hkn' : decide ((k : Int) < (n : Int)) = false := by simp; omega
                          have e : k = n := by omega
                          subst e
                          rw [HV.out]
                          go_wp2_with (first
                                | (go_at_call 30; refine (HSM1.out _).mono ?_; rintro e w' ⟨rfl, rfl⟩)
                                | (go_at_call 46; refine (HDG1.out _).mono ?_; rintro e w' ⟨rfl, rfl⟩)
                                | (go_at_call 53; refine (HSG1.out _).mono ?_; rintro e w' ⟨rfl, rfl⟩)
                                | (go_at_call 31; refine (HRUN.out _).mono ?_; rintro e w' ⟨rfl, rfl⟩)
                                | (at_builtin; refine wpList_append_tok rfl _ _ 63 rfl w.heap.size 74 i0 _ 40 Tryz.underlying63 hi hz0 hz1 hz2 rfl _ acc rfl HO.out ⟨2, [], V, p⟩ _ _ (by first | rfl | (rw [HX.out]; rfl) | (rw [HV.out]; rfl)) rfl HACC.out (by decide) HB.out.size ?_; intro v3 w3 hown3 hgr3))
                          go_roundw
                          case rel => exact ⟨p + k, acc ++ [⟨2, [], V, p⟩], HSZ3.out, by rw [List.length_append, List.length_singleton]; omega, by go_num, hown3, (HB.out.alloc HB.out.size _).grown hgr3 (by have := HB.out.size; simp; omega) (fun k hk => (HO.out.lt k hk).1), HN2⟩
                          case measure => simp [intOf]; omega
                  · have h48' : ((c.toNat : Int) == 48) = false := by simp only [beq_eq_false_iff_ne]; omega
                    have hq : ¬ (4 < n ∨ c.toNat = 48 ∧ 1 < n) := by omega
                    clear h48
                    have HN2 := Lib.hid (lex_step HD.out HN.out (HPD.out.2 hq))
                    obtain ⟨V, hV⟩ : ∃ V, numOf ((c :: r).take n) = V := ⟨_, rfl⟩
                    rw [hV] at HN2
                    have HV := Lib.hid hV
                    have hb3 : (p : Int) + (n : Int) ≤ 9223372036854775807 := by have := HZ.out; omega
                    have e3 := add64 (p := p) (n := n) rfl (by have := HZ.out; omega)
                    have hn4 : n ≤ 4 := by omega
                    have HSZ3 := Lib.hid hn1.2
                    clear HN HRR HPD hV hq h4
                    go_wp2_with (first
                              | (go_at_call 30; refine (HSM1.out _).mono ?_; rintro e w' ⟨rfl, rfl⟩)
                              | (go_at_call 46; refine (HDG1.out _).mono ?_; rintro e w' ⟨rfl, rfl⟩)
                              | (go_at_call 53; refine (HSG1.out _).mono ?_; rintro e w' ⟨rfl, rfl⟩)
                              | (go_at_call 31; refine (HRUN.out _).mono ?_; rintro e w' ⟨rfl, rfl⟩))
                    go_loop [9, 67] (fun x i => ∃ k : Nat, k ≤ n ∧ i = .int .i64 k ∧ x = .int .i64 (numOf ((c :: r).take k) : Nat)) (fun _ i => n - (intOf i).toNat)
                    case atStart => exact ⟨0, Nat.zero_le _, rfl, by rw [List.take_zero]; rfl⟩
                    case round =>
                      obtain ⟨k, hk, rfl, rfl⟩ := hrel
                      by_cases hkn : k < n
                      · have hkn' : (k : Int) < (n : Int) := by omega
                        have hk1 : k + 1 ≤ n := by omega
                        have hpk : p + k < s.size := by have := HSZ3.out; omega
                        obtain ⟨q, hq⟩ : ∃ q, p + k = q := ⟨_, rfl⟩
                        have hqs' : q < s.size := by omega
                        have hqs : (q : Int) < (s.size : Int) := Int.ofNat_lt.2 hqs'
                        have e4 := add64 hq (by have := HZ.out; omega)
                        have hg := get_drop s p k hpk
                        obtain ⟨d, hd1, hd2⟩ := run_digits (c :: r) k (by rw [HRD.out]; exact hkn)
                        have hlt := numOf_lt k (c :: r) (by rw [HRD.out]; exact hk)
                        have hstep := numOf_take (c :: r) k d hd1
                        have hpow : 10 ^ k ≤ 10 ^ 4 := Nat.pow_le_pow_right (by decide) (Nat.le_trans hk hn4)
                        rw [HD.out, hd1] at hg
                        have hgd : s[q]'hqs' = d := by subst hq; exact (Option.some.inj hg).symm
                        obtain ⟨x, hx⟩ : ∃ x, numOf ((c :: r).take k) = x := ⟨_, rfl⟩
                        rw [hx] at hlt hstep ⊢
                        simp only [digit, decide_eq_true_eq] at hd2
                        obtain ⟨y, hy⟩ : ∃ y, d.toNat - 48 = y := ⟨_, rfl⟩
                        rw [hy] at hstep
                        obtain ⟨e5, e6, e7, e8⟩ := num_facts (Nat.lt_of_lt_of_le hlt hpow) hd2 hy
                        have HST := Lib.hid hstep
                        clear hstep hd1 hg hpow hq hpk hd2 hx hy hlt
                        go_wp2_with fail
                        go_round
                        case rel =>
                          refine ⟨k + 1, hk1, by go_num, ?_⟩
                          rw [HST.out, Int.natCast_add, Int.natCast_mul]
                          exact congrArg (Value.int .i64) e8
                        case measure =>
                          clear e4 e5 e6 e7 e8 e3 hb3
                          simp [intOf]; omega
                      · have hkn' : decide ((k : Int) < (n : Int)) = false := by simp; omega
                        have e : k = n := by omega
                        subst e
                        rw [HV.out]
                        go_wp2_with (first
                              | (go_at_call 30; refine (HSM1.out _).mono ?_; rintro e w' ⟨rfl, rfl⟩)
                              | (go_at_call 46; refine (HDG1.out _).mono ?_; rintro e w' ⟨rfl, rfl⟩)
                              | (go_at_call 53; refine (HSG1.out _).mono ?_; rintro e w' ⟨rfl, rfl⟩)
                              | (go_at_call 31; refine (HRUN.out _).mono ?_; rintro e w' ⟨rfl, rfl⟩)
                              | (at_builtin; refine wpList_append_tok rfl _ _ 63 rfl w.heap.size 74 i0 _ 40 Tryz.underlying63 hi hz0 hz1 hz2 rfl _ acc rfl HO.out ⟨2, [], V, p⟩ _ _ (by first | rfl | (rw [HX.out]; rfl) | (rw [HV.out]; rfl)) rfl HACC.out (by decide) HB.out.size ?_; intro v3 w3 hown3 hgr3))
                        go_roundw
                        case rel => exact ⟨p + k, acc ++ [⟨2, [], V, p⟩], HSZ3.out, by rw [List.length_append, List.length_singleton]; omega, by go_num, hown3, (HB.out.alloc HB.out.size _).grown hgr3 (by have := HB.out.size; simp; omega) (fun k hk => (HO.out.lt k hk).1), HN2⟩
                        case measure => simp [intOf]; omega
            · rw [hsm] at hSM
              have HSM1 := Lib.hid hSM
              have HDG1 := Lib.hid hDG
              have HSG1 := Lib.hid hSG
              clear hSM hDG hSG
              obtain ⟨n, hn⟩ : ∃ n, run true (c :: r) = n := ⟨_, rfl⟩
              have hrun := fun W => refRun s p true W hp HSM.out
              rw [HD.out, hn] at hrun
              have HRUN := Lib.hid hrun
              have HPW := Lib.hid (piece_word HNB.out hsm hn)
              have hn1 : 1 ≤ n ∧ p + n ≤ s.size := ⟨by rw [← hn]; exact run_pos (small_word hsm), by
                have h1 := run_le true (c :: r)
                rw [hn, ← HD.out, List.length_drop, Array.length_toList] at h1
                have : s.data.size = s.size := rfl
                omega⟩
              clear hrun hn
              by_cases h16 : 16 < n
              · have h16' : (16 : Int) < (n : Int) := by omega
                have HN2 := Lib.hid (lex_stop HD.out HN.out (HPW.out.1 h16))
                clear HN HD HRR HPW h16
                go_wp2_with (first
                          | (go_at_call 30; refine (HSM1.out _).mono ?_; rintro e w' ⟨rfl, rfl⟩)
                          | (go_at_call 46; refine (HDG1.out _).mono ?_; rintro e w' ⟨rfl, rfl⟩)
                          | (go_at_call 53; refine (HSG1.out _).mono ?_; rintro e w' ⟨rfl, rfl⟩)
                          | (go_at_call 31; refine (HRUN.out _).mono ?_; rintro e w' ⟨rfl, rfl⟩))
                go_ret3
                exact post_bad HL.out (HR0.out.trans HN2.out) HB.out
              · have h16' : decide ((16 : Int) < (n : Int)) = false := by simp; omega
                have HN2 := Lib.hid (show R = (lexAt (p + n) (s.data.toList.drop (p + n))).before (acc ++ [⟨1, (c :: r).take n, 0, p⟩]) from lex_step HD.out HN.out (HPW.out.2 (by omega)))
                obtain ⟨q, hq⟩ : ∃ q, p + n = q := ⟨_, rfl⟩
                have e3 := add64 hq (by have := HZ.out; omega)
                have hqp : (p : Int) ≤ (q : Int) := by omega
                have hqs : (q : Int) ≤ (s.size : Int) := by omega
                obtain ⟨X, hX⟩ : ∃ X, s.extract p q = X := ⟨_, rfl⟩
                have HX := Lib.hid (show X = bytes ((c :: r).take n) by rw [← hX, extract_bytes s p n q hq, HD.out])
                rw [hq] at HN2
                have HSZ3 := Lib.hid (show q ≤ s.size by omega)
                have HQ := Lib.hid hq
                have hn0 : p < q := by omega
                clear HN HD HRR HPW h16 hq hn1
                go_wp2_with (first
                          | (go_at_call 30; refine (HSM1.out _).mono ?_; rintro e w' ⟨rfl, rfl⟩)
                          | (go_at_call 46; refine (HDG1.out _).mono ?_; rintro e w' ⟨rfl, rfl⟩)
                          | (go_at_call 53; refine (HSG1.out _).mono ?_; rintro e w' ⟨rfl, rfl⟩)
                          | (go_at_call 31; refine (HRUN.out _).mono ?_; rintro e w' ⟨rfl, rfl⟩)
                          | (at_builtin; refine wpList_append_tok rfl _ _ 63 rfl w.heap.size 74 i0 _ 40 Tryz.underlying63 hi hz0 hz1 hz2 rfl _ acc rfl HO.out ⟨1, (c :: r).take n, 0, p⟩ _ _ (by first | rfl | (rw [HX.out]; rfl) | (rw [HV.out]; rfl)) rfl HACC.out (by decide) HB.out.size ?_; intro v3 w3 hown3 hgr3))
                go_roundw
                case rel => exact ⟨q, acc ++ [⟨1, (c :: r).take n, 0, p⟩], HSZ3.out, by rw [List.length_append, List.length_singleton]; omega, by go_num, hown3, (HB.out.alloc HB.out.size _).grown hgr3 (by have := HB.out.size; simp; omega) (fun k hk => (HO.out.lt k hk).1), HN2⟩
                case measure => simp [intOf]; omega
      · have hge : decide ((p : Int) < (s.size : Int)) = false := by simp; omega
        have e : p = s.size := by omega
        have HN2 := Lib.hid (lex_end (drop_end s p (by omega)) HN.out)
        have HACC := Lib.hid (show acc.length ≤ 2000 by have := HZ.out; omega)
        clear HN
        subst e
        go_wp2_with (at_builtin; refine wpList_append_tok rfl _ _ 63 rfl w.heap.size 74 i0 _ 40 Tryz.underlying63 hi hz0 hz1 hz2 rfl _ acc rfl HO.out ⟨0, [], 0, s.size⟩ _ _ rfl rfl HACC.out (by decide) HB.out.size ?_; intro v3 w3 hown3 hgr3)
        go_ret3
        exact post_ok HL.out (HR0.out.trans HN2.out) hown3 ((HB.out.alloc HB.out.size _).grown hgr3 (by have := HB.out.size; simp; omega) (fun k hk => (HO.out.lt k hk).1))
theorem refGot (s : ByteArray) (w : World) (hs : s.size ≤ maxLen) : Calls Tryz.prog 42 #[.string s] w (LexGot w (lexS s.data.toList)) :=
  (refLex s w hs).mono fun _ _ h => h.got

end Go.Proofs.YtnoghlhggeffnaaGreatDoor.Lex
