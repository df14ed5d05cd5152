/-
  The walks of package ival. By an AI agent.
-/
import Derived.Test.YtlcijipkdopllaaDoorIvalText
namespace Go.Proofs.YtlcijipkdopllaaDoor.Ival
open Go.RowKit Go.Proofs.YtlcijipkdopllaaDoor.Itoa

theorem progEndless (lo hi : Int) (w : World) :
    Calls Tryd.prog 23 #[span lo hi] w fun e w' => e = .returned (.bool (hi == -1)) ∧ Below w.heap.size w w' := by
  go_enter Tryd.func23, Tryd.ntmps23
  go_wp2
  go_ret
  exact ⟨rfl, (Below.refl _ _).alloc (Nat.le_refl _) _⟩

theorem progMay (lo hi : Int) (w : World) :
    Calls Tryd.prog 7 #[span lo hi] w fun e w' => e = .returned (.bool (mayS lo hi)) ∧ Below w.heap.size w w' := by
  have he := fun W => progEndless lo hi W
  rcases may_cases lo hi with ⟨h1, h⟩ | ⟨h1, h2, h⟩ | ⟨h1, h2, h3, h⟩ | ⟨h1, h2, h3, h4, h⟩ | ⟨h1, h2, h3, h4, h5, h⟩ | ⟨h1, h2, h3, h4, h5, h⟩
  case' inr.inr.inl =>
    subst h3
    have h3 : ((-1 : Int) == -1) = true := rfl
  case' inr.inr.inl | inr.inr.inr.inl | inr.inr.inr.inr.inl | inr.inr.inr.inr.inr =>
    rw [h3] at he
  all_goals
    rw [h]
    clear h
    have HE := Lib.hid he
    clear he
    go_enter Tryd.func7, Tryd.ntmps7
    go_wp2_with (go_at_call 23; refine (HE.out _).mono ?_; rintro e w' ⟨rfl, hb⟩; have hc0 := box0 hb; have hc1 := box1 hb)
    go_ret
    first
      | exact ⟨rfl, ((Below.refl _ _).alloc (Nat.le_refl _) _).trans (hb.mono (by simp))⟩
      | exact ⟨rfl, (Below.refl _ _).alloc (Nat.le_refl _) _⟩

theorem progHas (lo hi : Int) (d : Nat) (w : World) (_hd : d < 18446744073709551616) :
    Calls Tryd.prog 9 #[span lo hi, .int .u64 d] w fun e w' => e = .returned (.bool (hasS lo hi d)) ∧ Below w.heap.size w w' := by
  have hm := fun W => progMay lo hi W
  have he := fun W => progEndless lo hi W
  unfold hasS
  rcases may_ways lo hi with h | ⟨h, h1, h2, h3⟩ | ⟨h, h1, h0, h2, h3, h4⟩
  · rw [h] at hm ⊢
    have HM := Lib.hid hm
    clear hm h he
    go_enter Tryd.func9, Tryd.ntmps9
    go_wp2_with (go_at_call 7; refine (HM.out _).mono ?_; rintro e w' ⟨rfl, hb⟩; have hc0 := box0 hb; have hc1 := box1 hb)
    go_ret
    exact ⟨rfl, ((Below.refl _ _).alloc (Nat.le_refl _) _).trans (hb.mono (by simp))⟩
  · subst h1
    rw [h] at hm ⊢
    rw [show ((-1 : Int) == -1) = true from rfl] at he
    have HM := Lib.hid hm
    have HE := Lib.hid he
    have e1 : IntKind.u64.wrap lo = lo := by rw [IntKind.wrap_u64]; omega
    have HL := Lib.hid h3
    clear hm h he
    by_cases h4 : lo ≤ (d : Int)
    · rw [show (true && decide (lo ≤ (d : Int) ∧ ((-1 : Int) = -1 ∨ (d : Int) ≤ -1))) = true by simp [h4]]
      go_enter Tryd.func9, Tryd.ntmps9
      go_wp2_with (first
        | (go_at_call 7; refine (HM.out _).mono ?_; rintro e w' ⟨rfl, hb⟩; have hc0 := box0 hb; have hc1 := box1 hb)
        | (go_at_call 23; refine (HE.out _).mono ?_; rintro e w2 ⟨rfl, hb2⟩; have hc2 := keep_cell hb2 hc0; have hc3 := keep_cell hb2 hc1))
      go_ret
      exact ⟨rfl, (((Below.refl _ _).alloc (Nat.le_refl _) _).trans (hb.mono (by simp))).trans (hb2.mono (by have := hb.size; simp at this; omega))⟩
    · rw [show (true && decide (lo ≤ (d : Int) ∧ ((-1 : Int) = -1 ∨ (d : Int) ≤ -1))) = false by simp [h4]]
      go_enter Tryd.func9, Tryd.ntmps9
      go_wp2_with (go_at_call 7; refine (HM.out _).mono ?_; rintro e w' ⟨rfl, hb⟩; have hc0 := box0 hb; have hc1 := box1 hb)
      go_ret
      exact ⟨rfl, ((Below.refl _ _).alloc (Nat.le_refl _) _).trans (hb.mono (by simp))⟩
  · rw [h] at hm ⊢
    rw [h1] at he
    have HM := Lib.hid hm
    have HE := Lib.hid he
    have e1 : IntKind.u64.wrap lo = lo := by rw [IntKind.wrap_u64]; omega
    have e2 : IntKind.u64.wrap hi = hi := by rw [IntKind.wrap_u64]; omega
    have HL := Lib.hid h0
    clear hm h h0 he
    by_cases h5 : lo ≤ (d : Int)
    · have h7 : (true && decide (lo ≤ (d : Int) ∧ (hi = -1 ∨ (d : Int) ≤ hi))) = decide ((d : Int) ≤ hi) := by have := HL.out; simp [h5, this]
      rw [h7]
      clear h7
      go_enter Tryd.func9, Tryd.ntmps9
      go_wp2_with (first
        | (go_at_call 7; refine (HM.out _).mono ?_; rintro e w' ⟨rfl, hb⟩; have hc0 := box0 hb; have hc1 := box1 hb)
        | (go_at_call 23; refine (HE.out _).mono ?_; rintro e w2 ⟨rfl, hb2⟩; have hc2 := keep_cell hb2 hc0; have hc3 := keep_cell hb2 hc1))
      go_ret
      exact ⟨rfl, (((Below.refl _ _).alloc (Nat.le_refl _) _).trans (hb.mono (by simp))).trans (hb2.mono (by have := hb.size; simp at this; omega))⟩
    · rw [show (true && decide (lo ≤ (d : Int) ∧ (hi = -1 ∨ (d : Int) ≤ hi))) = false by simp [h5]]
      go_enter Tryd.func9, Tryd.ntmps9
      go_wp2_with (go_at_call 7; refine (HM.out _).mono ?_; rintro e w' ⟨rfl, hb⟩; have hc0 := box0 hb; have hc1 := box1 hb)
      go_ret
      exact ⟨rfl, ((Below.refl _ _).alloc (Nat.le_refl _) _).trans (hb.mono (by simp))⟩

/-- The greatest class. -/
def lastS (lo hi : Int) : Int := if hi = -1 then lo else hi

theorem progLast (lo hi : Int) (w : World) :
    Calls Tryd.prog 26 #[span lo hi] w fun e w' => e = .returned (.int .i64 (lastS lo hi)) ∧ Below w.heap.size w w' := by
  have he := fun W => progEndless lo hi W
  unfold lastS
  by_cases h1 : hi = -1
  · subst h1
    rw [if_pos rfl]
    rw [show ((-1 : Int) == -1) = true from rfl] at he
    have HE := Lib.hid he
    clear he
    go_enter Tryd.func26, Tryd.ntmps26
    go_wp2_with (go_at_call 23; refine (HE.out _).mono ?_; rintro e w' ⟨rfl, hb⟩; have hc0 := box0 hb; have hc1 := box1 hb)
    go_ret
    exact ⟨rfl, ((Below.refl _ _).alloc (Nat.le_refl _) _).trans (hb.mono (by simp))⟩
  · rw [if_neg h1]
    rw [show (hi == -1) = false by simp [h1]] at he
    have HE := Lib.hid he
    clear he h1
    go_enter Tryd.func26, Tryd.ntmps26
    go_wp2_with (go_at_call 23; refine (HE.out _).mono ?_; rintro e w' ⟨rfl, hb⟩; have hc0 := box0 hb; have hc1 := box1 hb)
    go_ret
    exact ⟨rfl, ((Below.refl _ _).alloc (Nat.le_refl _) _).trans (hb.mono (by simp))⟩

theorem wide_last {lo hi : Int} (h : mayS lo hi = true) : wideS lo hi = lastS lo hi + 1 ∧ 0 ≤ lastS lo hi ∧ lastS lo hi ≤ 9999 := by
  obtain ⟨h1, h2, h3⟩ := may_parts h
  unfold wideS lastS
  rw [if_pos h]
  split <;> omega

theorem progWide (lo hi : Int) (w : World) :
    Calls Tryd.prog 13 #[span lo hi] w fun e w' => e = .returned (.int .i64 (wideS lo hi)) ∧ Below w.heap.size w w' := by
  have hm := fun W => progMay lo hi W
  have hl := fun W => progLast lo hi W
  rcases Bool.eq_false_or_eq_true (mayS lo hi) with h | h
  · obtain ⟨h1, h2, h3⟩ := wide_last h
    rw [h1]
    rw [h] at hm
    obtain ⟨v, hv⟩ : ∃ v, lastS lo hi = v := ⟨_, rfl⟩
    rw [hv] at hl h2 h3 ⊢
    have HM := Lib.hid hm
    have HL := Lib.hid hl
    clear hm hl h h1 hv
    go_enter Tryd.func13, Tryd.ntmps13
    go_wp2_with (first
      | (go_at_call 7; refine (HM.out _).mono ?_; rintro e w' ⟨rfl, hb⟩; have hc0 := box0 hb; have hc1 := box1 hb)
      | (go_at_call 26; refine (HL.out _).mono ?_; rintro e w2 ⟨rfl, hb2⟩; have hc2 := keep_cell hb2 hc0; have hc3 := keep_cell hb2 hc1))
    go_ret
    exact ⟨rfl, (((Below.refl _ _).alloc (Nat.le_refl _) _).trans (hb.mono (by simp))).trans (hb2.mono (by have := hb.size; simp at this; omega))⟩
  · rw [show wideS lo hi = 0 by unfold wideS; rw [h]; rfl]
    rw [h] at hm
    have HM := Lib.hid hm
    clear hm h hl
    go_enter Tryd.func13, Tryd.ntmps13
    go_wp2_with (go_at_call 7; refine (HM.out _).mono ?_; rintro e w' ⟨rfl, hb⟩; have hc0 := box0 hb; have hc1 := box1 hb)
    go_ret
    exact ⟨rfl, ((Below.refl _ _).alloc (Nat.le_refl _) _).trans (hb.mono (by simp))⟩

theorem class_in' {lo hi : Int} {d : Nat} (h : mayS lo hi = true) (hd : (d : Int) ≤ lastS lo hi) : classS lo hi d = d := by
  unfold classS lastS at *
  rw [if_pos h]
  split at hd <;> rename_i h1
  · rw [if_pos h1]; omega
  · rw [if_neg h1, if_neg (by omega)]
theorem class_open {lo hi : Int} {d : Nat} (h : mayS lo hi = true) (hd : ¬ (d : Int) ≤ lastS lo hi) (h1 : hi = -1) : classS lo hi d = lo := by
  unfold classS lastS at *
  rw [if_pos h]
  rw [if_pos h1] at hd ⊢
  omega
theorem class_none {lo hi : Int} {d : Nat} (h : mayS lo hi = true) (hd : ¬ (d : Int) ≤ lastS lo hi) (h1 : ¬ hi = -1) : classS lo hi d = -1 := by
  unfold classS lastS at *
  rw [if_pos h]
  rw [if_neg h1] at hd ⊢
  rw [if_pos (by omega)]

theorem progClass (lo hi : Int) (d : Nat) (w : World) (_hd : d < 18446744073709551616) :
    Calls Tryd.prog 15 #[span lo hi, .int .u64 d] w fun e w' => e = .returned (.int .i64 (classS lo hi d)) ∧ Below w.heap.size w w' := by
  have hm := fun W => progMay lo hi W
  have hl := fun W => progLast lo hi W
  have he := fun W => progEndless lo hi W
  rcases Bool.eq_false_or_eq_true (mayS lo hi) with h | h
  · obtain ⟨-, h2, h3⟩ := wide_last h
    by_cases h4 : (d : Int) ≤ lastS lo hi
    · rw [class_in' h h4]
      rw [h] at hm
      obtain ⟨v, hv⟩ : ∃ v, lastS lo hi = v := ⟨_, rfl⟩
      rw [hv] at hl h2 h3 h4
      have HM := Lib.hid hm
      have HL := Lib.hid hl
      have e1 : IntKind.u64.wrap v = v := by rw [IntKind.wrap_u64]; omega
      have e2 : wrap64 (d : Int) = (d : Int) := IntWalk.wrap64_in _ (by omega)
      clear hm hl he h hv
      go_enter Tryd.func15, Tryd.ntmps15
      go_wp2_with (first
        | (go_at_call 7; refine (HM.out _).mono ?_; rintro e w' ⟨rfl, hb⟩; have hc0 := box0 hb; have hc1 := box1 hb)
        | (go_at_call 26; refine (HL.out _).mono ?_; rintro e w2 ⟨rfl, hb2⟩; have hc2 := keep_cell hb2 hc0; have hc3 := keep_cell hb2 hc1))
      go_ret
      exact ⟨rfl, (((Below.refl _ _).alloc (Nat.le_refl _) _).trans (hb.mono (by simp))).trans (hb2.mono (by have := hb.size; simp at this; omega))⟩
    · obtain ⟨r, hr, h5⟩ : ∃ r, classS lo hi d = r ∧ ((hi == -1) = true ∧ r = lo ∨ (hi == -1) = false ∧ r = -1) := by
        by_cases h1 : hi = -1
        · exact ⟨_, class_open h h4 h1, Or.inl ⟨by simp [h1], rfl⟩⟩
        · exact ⟨_, class_none h h4 h1, Or.inr ⟨by simp [h1], rfl⟩⟩
      rw [hr]
      rw [h] at hm
      obtain ⟨v, hv⟩ : ∃ v, lastS lo hi = v := ⟨_, rfl⟩
      rw [hv] at hl h2 h3 h4
      have h6 : decide ((d : Int) ≤ v) = false := by simp; omega
      have e1 : IntKind.u64.wrap v = v := by rw [IntKind.wrap_u64]; omega
      have HM := Lib.hid hm
      have HL := Lib.hid hl
      rcases h5 with ⟨h5, h7⟩ | ⟨h5, h7⟩
      all_goals
        rw [h5] at he
        rw [h7]
        have HE := Lib.hid he
        clear hm hl he h hv h4 hr h5 h7 r
        go_enter Tryd.func15, Tryd.ntmps15
        go_wp2_with (first
          | (go_at_call 7; refine (HM.out _).mono ?_; rintro e w' ⟨rfl, hb⟩; have hc0 := box0 hb; have hc1 := box1 hb)
          | (go_at_call 26; refine (HL.out _).mono ?_; rintro e w2 ⟨rfl, hb2⟩; have hc2 := keep_cell hb2 hc0; have hc3 := keep_cell hb2 hc1)
          | (go_at_call 23; refine (HE.out _).mono ?_; rintro e w3 ⟨rfl, hb3⟩; have hc4 := keep_cell hb3 hc2; have hc5 := keep_cell hb3 hc3))
        go_ret
        exact ⟨rfl, ((((Below.refl _ _).alloc (Nat.le_refl _) _).trans (hb.mono (by simp))).trans (hb2.mono (by have := hb.size; simp at this; omega))).trans (hb3.mono (by have := hb.size; have := hb2.size; simp at *; omega))⟩
  · rw [show classS lo hi d = -1 by unfold classS; rw [h]; rfl]
    rw [h] at hm
    have HM := Lib.hid hm
    clear hm h hl he
    go_enter Tryd.func15, Tryd.ntmps15
    go_wp2_with (go_at_call 7; refine (HM.out _).mono ?_; rintro e w' ⟨rfl, hb⟩; have hc0 := box0 hb; have hc1 := box1 hb)
    go_ret
    exact ⟨rfl, ((Below.refl _ _).alloc (Nat.le_refl _) _).trans (hb.mono (by simp))⟩

/-- Is it a class? -/
def isS (lo hi c : Int) : Bool := decide (0 ≤ c ∧ c < wideS lo hi)

theorem progIsClass (lo hi c : Int) (w : World) :
    Calls Tryd.prog 27 #[span lo hi, .int .i64 c] w fun e w' => e = .returned (.bool (isS lo hi c)) ∧ Below w.heap.size w w' := by
  have hw := fun W => progWide lo hi W
  unfold isS
  obtain ⟨v, hv⟩ : ∃ v, wideS lo hi = v := ⟨_, rfl⟩
  rw [hv] at hw ⊢
  have HW := Lib.hid hw
  clear hw hv
  by_cases h1 : 0 ≤ c
  · have e1 : decide (0 ≤ c ∧ c < v) = decide (c < v) := by simp [h1]
    rw [e1]
    clear e1
    go_enter Tryd.func27, Tryd.ntmps27
    go_wp2_with (go_at_call 13; refine (HW.out _).mono ?_; rintro e w' ⟨rfl, hb⟩; have hc0 := box0 hb; have hc1 := box1 hb)
    go_ret
    exact ⟨rfl, ((Below.refl _ _).alloc (Nat.le_refl _) _).trans (hb.mono (by simp))⟩
  · rw [show decide (0 ≤ c ∧ c < v) = false by simp [h1]]
    go_enter Tryd.func27, Tryd.ntmps27
    go_wp2
    go_ret
    exact ⟨rfl, (Below.refl _ _).alloc (Nat.le_refl _) _⟩

theorem progIn (lo hi c : Int) (w : World) :
    Calls Tryd.prog 17 #[span lo hi, .int .i64 c] w fun e w' => e = .returned (.bool (inS lo hi c)) ∧ Below w.heap.size w w' := by
  have hi' := fun W => progIsClass lo hi c W
  have e0 : inS lo hi c = (isS lo hi c && decide (lo ≤ c)) := by
    simp only [inS, isS, Bool.decide_and, Bool.and_assoc]
  rw [e0]
  clear e0
  rcases Bool.eq_false_or_eq_true (isS lo hi c) with h | h
  all_goals
    rw [h] at hi' ⊢
    have HI := Lib.hid hi'
    clear hi' h
    go_enter Tryd.func17, Tryd.ntmps17
    go_wp2_with (go_at_call 27; refine (HI.out _).mono ?_; rintro e w' ⟨rfl, hb⟩; have hc0 := box0 hb; have hc1 := box1 hb)
    go_ret
    exact ⟨by simp, ((Below.refl _ _).alloc (Nat.le_refl _) _).trans (hb.mono (by simp))⟩

theorem progPlus (a b : Nat) (w : World) (ha : a < 18446744073709551616) (_hb : b < 18446744073709551616) :
    Calls Tryd.prog 28 #[.int .u64 a, .int .u64 b] w fun e w' => e = .returned (.int .u64 ((min (a + b) 18446744073709551615 : Nat) : Int)) ∧ w' = w := by
  obtain ⟨s, hs⟩ : ∃ s, 18446744073709551615 - a = s := ⟨_, rfl⟩
  have e1 : IntKind.u64.wrap (18446744073709551615 - (a : Int)) = (s : Int) := by rw [IntKind.wrap_u64]; omega
  by_cases h : b ≤ s
  · rw [show min (a + b) 18446744073709551615 = a + b by omega]
    have e2 : IntKind.u64.wrap ((a : Int) + (b : Int)) = ((a + b : Nat) : Int) := by rw [IntKind.wrap_u64]; omega
    have e3 : decide ((s : Int) < (b : Int)) = false := by simp; omega
    clear hs
    go_enter Tryd.func28, Tryd.ntmps28
    go_wp2
    go_ret
    exact ⟨rfl, rfl⟩
  · rw [show min (a + b) 18446744073709551615 = 18446744073709551615 by omega]
    have e3 : decide ((s : Int) < (b : Int)) = true := by simp; omega
    clear hs
    go_enter Tryd.func28, Tryd.ntmps28
    go_wp2
    go_ret
    exact ⟨rfl, rfl⟩

theorem later_plus {lo hi : Int} {c d : Nat} (h : isS lo hi (c : Int) = true) : laterS lo hi (c : Int) d = classS lo hi (min (c + d) 18446744073709551615) := by
  obtain ⟨h1, h2⟩ := of_decide_eq_true h
  have hm : mayS lo hi = true := by
    rcases Bool.eq_false_or_eq_true (mayS lo hi) with hm | hm
    · exact hm
    · unfold wideS at h2; rw [hm] at h2; simp at h2; omega
  obtain ⟨h3, h4, h5⟩ := wide_last hm
  unfold laterS
  rw [if_pos ⟨h1, h2⟩]
  by_cases h6 : (d : Int) ≤ wideS lo hi - 1 - (c : Int)
  · rw [if_pos h6, class_in' hm (by omega)]
    omega
  · rw [if_neg h6]
    by_cases h7 : hi = -1
    · rw [if_pos h7, class_open hm (by omega) h7]
    · rw [if_neg h7, class_none hm (by omega) h7]

theorem progLater (lo hi c : Int) (d : Nat) (w : World) (hd : d < 18446744073709551616) :
    Calls Tryd.prog 19 #[span lo hi, .int .i64 c, .int .u64 d] w fun e w' => e = .returned (.int .i64 (laterS lo hi c d)) ∧ Below w.heap.size w w' := by
  have hi' := fun W => progIsClass lo hi c W
  rcases Bool.eq_false_or_eq_true (isS lo hi c) with h | h
  · obtain ⟨h1, h2⟩ := of_decide_eq_true h
    have h3 := (wide_le lo hi).2
    obtain ⟨k, rfl⟩ : ∃ k : Nat, c = k := Int.eq_ofNat_of_zero_le h1
    rw [later_plus h]
    rw [h] at hi'
    have hp := fun W => progPlus k d W (by omega) hd
    have hc := fun W => progClass lo hi (min (k + d) 18446744073709551615) W (by omega)
    obtain ⟨m, hm⟩ : ∃ m, min (k + d) 18446744073709551615 = m := ⟨_, rfl⟩
    rw [hm] at hp hc ⊢
    have e1 : IntKind.u64.wrap (k : Int) = (k : Int) := by rw [IntKind.wrap_u64]; omega
    have HI := Lib.hid hi'
    have HP := Lib.hid hp
    have HC := Lib.hid hc
    clear hi' h hp hc h1 h2 h3 hm
    go_enter Tryd.func19, Tryd.ntmps19
    go_wp2_with (go_at_call 27; refine (HI.out _).mono ?_; rintro e w' ⟨rfl, hb⟩; have hc0 := box0 hb; have hc1 := box1 hb)
    have HB := Lib.hid (((Below.refl w.heap.size w).alloc (Nat.le_refl _) _).trans (hb.mono (by simp)))
    clear hb HI
    go_region_with (first
      | (go_at_call 28; refine (HP.out _).mono ?_; rintro e w2 ⟨rfl, rfl⟩)
      | (go_at_call 15; refine (HC.out _).mono ?_; rintro e w3 ⟨rfl, hb3⟩))
    all_goals
      go_wp2
      go_ret
      first
        | exact ⟨rfl, HB.out.trans (hb3.mono HB.out.size)⟩
        | exact ⟨rfl, HB.out.drew.trans (hb3.mono HB.out.size)⟩
  · rw [show laterS lo hi c d = -1 by unfold laterS; rw [if_neg (of_decide_eq_false h)]]
    rw [h] at hi'
    have HI := Lib.hid hi'
    clear hi' h
    go_enter Tryd.func19, Tryd.ntmps19
    go_wp2_with (go_at_call 27; refine (HI.out _).mono ?_; rintro e w' ⟨rfl, hb⟩; have hc0 := box0 hb; have hc1 := box1 hb)
    go_ret
    exact ⟨rfl, ((Below.refl _ _).alloc (Nat.le_refl _) _).trans (hb.mono (by simp))⟩

/-- The end, as it is written. -/
def endS (hi : Int) : ByteArray := if hi = -1 then { data := #[42] } else dec hi

theorem progEndText (lo hi : Int) (w : World) (h9 : hi = -1 ∨ 0 ≤ hi ∧ hi ≤ 9999) (hT : Tab10 w) :
    Calls Tryd.prog 25 #[span lo hi] w fun e w' => e = .returned (.string (endS hi)) ∧ Below w.heap.size w w' := by
  have he := fun W => progEndless lo hi W
  unfold endS
  by_cases h1 : hi = -1
  · subst h1
    rw [if_pos rfl]
    rw [show ((-1 : Int) == -1) = true from rfl] at he
    have HE := Lib.hid he
    clear he
    go_enter Tryd.func25, Tryd.ntmps25
    go_wp2_with (go_at_call 23; refine (HE.out _).mono ?_; rintro e w' ⟨rfl, hb⟩; have hc0 := box0 hb; have hc1 := box1 hb)
    go_ret
    exact ⟨rfl, ((Below.refl _ _).alloc (Nat.le_refl _) _).trans (hb.mono (by simp))⟩
  · rw [if_neg h1]
    rw [show (hi == -1) = false by simp [h1]] at he
    have HE := Lib.hid he
    have hr : -9223372036854775808 ≤ hi ∧ hi ≤ 9223372036854775807 := by omega
    have HT := Lib.hid (fun o W (hb : Below (w.alloc o).heap.size (w.alloc o) W) => (hT.later (((Below.refl _ _).alloc (Nat.le_refl _) o).trans (hb.mono (by simp)))))
    clear he h1 h9
    go_enter Tryd.func25, Tryd.ntmps25
    go_wp2_with (first
      | (go_at_call 23; refine (HE.out _).mono ?_; rintro e w' ⟨rfl, hb⟩; have hc0 := box0 hb; have hc1 := box1 hb)
      | (go_at_call 24; refine (itoa hi _ hr (HT.out _ _ hb)).mono ?_; rintro e w2 ⟨rfl, hb2⟩))
    go_ret
    exact ⟨rfl, (((Below.refl _ _).alloc (Nat.le_refl _) _).trans (hb.mono (by simp))).trans (hb2.mono (by have := hb.size; simp at this; omega))⟩

theorem endS_size (hi : Int) (h9 : hi = -1 ∨ 0 ≤ hi ∧ hi ≤ 9999) : (endS hi).size ≤ 21 := by
  unfold endS
  split
  · decide
  · exact dec_size hi (by omega)
theorem open_end (A : ByteArray) : A ++ { data := #[44, 42, 93] } = A ++ { data := #[44] } ++ { data := #[42] } ++ { data := #[93] } := by
  rw [ByteArray.append_assoc, ByteArray.append_assoc]
  rfl
theorem text_end {lo hi : Int} (h : mayS lo hi = true) : textS lo hi = { data := #[91] } ++ dec lo ++ { data := #[44] } ++ endS hi ++ { data := #[93] } := by
  unfold textS endS
  rw [if_pos h]
  split
  · exact open_end _
  · rfl

set_option maxHeartbeats 1000000 in
theorem progText (lo hi : Int) (w : World) (hT : Tab10 w) :
    Calls Tryd.prog 11 #[span lo hi] w fun e w' => e = .returned (.string (textS lo hi)) ∧ Below w.heap.size w w' := by
  have hm := fun W => progMay lo hi W
  rcases Bool.eq_false_or_eq_true (mayS lo hi) with h | h
  · rw [text_end h]
    obtain ⟨h1, h2, h3⟩ := may_parts h
    have h9 : hi = -1 ∨ 0 ≤ hi ∧ hi ≤ 9999 := by omega
    have he := fun W (hW : Tab10 W) => progEndText lo hi W h9 hW
    have hd2 := endS_size hi h9
    have hd := dec_size lo (by omega)
    have hr : -9223372036854775808 ≤ lo ∧ lo ≤ 9223372036854775807 := by omega
    rw [h] at hm
    obtain ⟨t, ht⟩ : ∃ t, endS hi = t := ⟨_, rfl⟩
    rw [ht] at he hd2 ⊢
    have HM := Lib.hid hm
    have HE := Lib.hid he
    have HT := Lib.hid (fun o W (hb : Below (w.alloc o).heap.size (w.alloc o) W) => (hT.later (((Below.refl _ _).alloc (Nat.le_refl _) o).trans (hb.mono (by simp)))))
    clear hm h he ht h1 h2 h3 h9
    go_enter Tryd.func11, Tryd.ntmps11
    go_wp2_with (go_at_call 7; refine (HM.out _).mono ?_; rintro e w' ⟨rfl, hb⟩; have hc0 := box0 hb; have hc1 := box1 hb)
    have hT1 := HT.out _ _ hb
    have hsz : w.heap.size ≤ w'.heap.size := by have := hb.size; simp at this; omega
    have HB := Lib.hid (((Below.refl w.heap.size w).alloc (Nat.le_refl _) _).trans (hb.mono (by simp)))
    clear hb HT HM
    go_region_with (first
      | (go_at_call 25; refine (HE.out _ (by first | exact hT1.later hb2 | exact (hT1.later (below_drewN (Below.refl _ _) _)).later hb2 | exact (show Tab10 _ from hT1).later hb2)).mono ?_; rintro e w3 ⟨rfl, hb3⟩)
      | (go_at_call 24; refine (itoa lo _ hr (by first | exact hT1 | exact hT1.later (below_drewN (Below.refl _ _) _))).mono ?_; rintro e w2 ⟨rfl, hb2⟩; have hc2 := keep_cell hb2 hc0; have hc3 := keep_cell hb2 hc1))
    all_goals
      go_wp2
      go_ret
      exact ⟨rfl, ((HB.out.drew).trans (hb2.mono hsz)).trans (hb3.mono (Nat.le_trans hsz hb2.size))⟩
  · rw [show textS lo hi = { data := #[] } by unfold textS; rw [h]; rfl]
    rw [h] at hm
    have HM := Lib.hid hm
    clear hm h
    go_enter Tryd.func11, Tryd.ntmps11
    go_wp2_with (go_at_call 7; refine (HM.out _).mono ?_; rintro e w' ⟨rfl, hb⟩; have hc0 := box0 hb; have hc1 := box1 hb)
    go_ret
    exact ⟨rfl, ((Below.refl _ _).alloc (Nat.le_refl _) _).trans (hb.mono (by simp))⟩

end Go.Proofs.YtlcijipkdopllaaDoor.Ival
