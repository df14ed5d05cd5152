/-
  The walks of package bits and of its reference: within, the same, how many, how many words are wanted; two lists of words, two lists of numbers. By an AI agent.
-/
import Derived.Test.YtmmlnfffnfjjnaaDoorBitsWalks
namespace Go.Proofs.YtmmlnfffnfjjnaaDoor.BitsWalks
open Go.RowKit Go.Proofs.YtmmlnfffnfjjnaaDoor.Ints Go.Proofs.YtmmlnfffnfjjnaaDoor.Words Go.Proofs.YtmmlnfffnfjjnaaDoor.RdW

/-- Is each number of the first in the second? -/
def within (xs ys : List Nat) : Bool := decide (∀ j, j < xs.length → anot (wd xs j) (wd ys j) = 0)
theorem within_iff {xs ys : List Nat} (hx : Ws xs) : within xs ys = true ↔ ∀ k, has xs k = true → has ys k = true := by
  rw [within, decide_eq_true_iff]
  constructor
  · intro h k hk
    have hlt := has_lt hk
    have h0 := h (k / 64) (by omega)
    have h1 : (anot (wd xs (k / 64)) (wd ys (k / 64))).testBit (k % 64) = false := by rw [h0]; simp
    rw [anot_bit] at h1
    unfold has at hk ⊢
    unfold wd at h1
    rw [hk] at h1
    simpa using h1
  · intro h j _
    apply Nat.eq_of_testBit_eq
    intro i
    rw [anot_bit, Nat.zero_testBit]
    by_cases hi : i < 64
    · have h1 := h (64 * j + i)
      rw [has_at _ _ _ hi, has_at _ _ _ hi] at h1
      unfold wd
      cases e : (xs[j]?.getD 0).testBit i
      · rfl
      · rw [h1 e]; rfl
    · have : (wd xs j).testBit i = false := bit_high (hx j) (by omega)
      rw [this]; rfl
/-- The words that a list of numbers wants. -/
def wants (zs : List Int) : Nat := zs.foldl (fun c z => if 0 ≤ z ∧ z ≤ 4095 then max c (z.toNat / 64 + 1) else c) 0
theorem wants_snoc (zs : List Int) (z : Int) : wants (zs ++ [z]) = if 0 ≤ z ∧ z ≤ 4095 then max (wants zs) (z.toNat / 64 + 1) else wants zs := by
  simp [wants, List.foldl_append]

section
variable (A B : Option Addr) (n c m d : Nat) (xs ys : List Nat) (zs us : List Int) (w : World)

theorem within_ (hn : n ≤ maxLen) (h : RdW w A n xs) (h' : RdW w B m ys) :
    Calls Tryd.prog 25 #[.slice A n c, .slice B m d] w fun e w' => e = .returned (.bool (within xs ys)) ∧ w = w' := by
  unfold maxLen at hn
  have hcell := h.cell
  have hlt := h.ws
  have hlt' := h'.ws
  have HL := Lib.hid h.len
  clear h
  go_enter Tryd.func25, Tryd.ntmps25
  go_wp2
  go_loop [9] (fun i => ∃ k : Nat, k ≤ n ∧ i = .int .i64 k ∧ ∀ j : Nat, j < k → anot (wd xs j) (wd ys j) = 0) (fun i => n - (intOf i).toNat)
  case atStart => exact ⟨0, Nat.zero_le _, rfl, fun j hj => absurd hj (by omega)⟩
  case round =>
    obtain ⟨k, hk, rfl, hz⟩ := hrel
    have HZ := Lib.hid hz
    clear hz
    by_cases h0 : k < n
    · obtain ⟨b, off, rfl, hc⟩ := hcell (by omega)
      have hc1 := hc k h0
      have hk0 : (k : Int) < (n : Int) := by omega
      have hb := bits_andNot_u64 (wd xs k) (wd ys k) (hlt k) (hlt' k)
      obtain ⟨v, hv⟩ : ∃ v, anot (wd xs k) (wd ys k) = v := ⟨_, rfl⟩
      have HV := Lib.hid hv
      rw [hv] at hb
      clear hcell hc hv
      by_cases hx : v = 0
      · subst hx
        go_wp2_with (go_at_call 31; refine (word _ _ _ _ _ k h').mono ?_; rintro e w' ⟨rfl, rfl⟩)
        go_round
        case rel =>
          refine ⟨k + 1, by omega, by go_num, fun j hj => ?_⟩
          by_cases e : j = k
          · subst e; exact HV.out
          · exact HZ.out j (by omega)
        case measure => simp [intOf]; omega
      · go_wp2_with (go_at_call 31; refine (word _ _ _ _ _ k h').mono ?_; rintro e w' ⟨rfl, rfl⟩)
        go_ret
        refine ⟨?_, rfl⟩
        have : within xs ys = false := by
          rw [within, decide_eq_false_iff_not]
          intro hall
          exact hx (by rw [← HV.out]; exact hall k (by rw [HL.out]; omega))
        rw [this]; rfl
    · have h1 : ¬ (k : Int) < (n : Int) := by omega
      go_wp2
      go_ret
      refine ⟨?_, rfl⟩
      have : within xs ys = true := by
        rw [within, decide_eq_true_iff]
        intro j hj
        exact HZ.out j (by rw [HL.out] at hj; omega)
      rw [this]; rfl

/-- Are the two sets one? -/
def same (xs ys : List Nat) : Bool := within xs ys && within ys xs
theorem same_iff {xs ys : List Nat} (hx : Ws xs) (hy : Ws ys) : same xs ys = true ↔ ∀ k, has xs k = has ys k := by
  rw [same, Bool.and_eq_true, within_iff hx, within_iff hy]
  constructor
  · rintro ⟨h1, h2⟩ k
    rw [Bool.eq_iff_iff]
    exact ⟨h1 k, h2 k⟩
  · intro h
    exact ⟨fun k hk => by rw [← h]; exact hk, fun k hk => by rw [h]; exact hk⟩

theorem same_ (hn : n ≤ maxLen) (hm : m ≤ maxLen) (h : RdW w A n xs) (h' : RdW w B m ys) :
    Calls Tryd.prog 26 #[.slice A n c, .slice B m d] w fun e w' => e = .returned (.bool (same xs ys)) ∧ w = w' := by
  have c1 := within_ A B n c m d xs ys w hn h h'
  have c2 := within_ B A m d n c ys xs w hm h' h
  unfold same
  generalize within xs ys = r at *
  generalize within ys xs = s at *
  have C1 := Lib.hid c1
  have C2 := Lib.hid c2
  clear c1 c2
  go_enter Tryd.func26, Tryd.ntmps26
  go_wp2_with fail
  refine C1.out.mono ?_
  rintro e w' ⟨rfl, rfl⟩
  cases r
  · go_wp2
    go_ret
    exact ⟨rfl, rfl⟩
  · go_wp2_with fail
    refine C2.out.mono ?_
    rintro e w' ⟨rfl, rfl⟩
    go_wp2
    go_ret
    exact ⟨rfl, rfl⟩

theorem count_ (hn : n ≤ 1048576) (h : RdW w A n xs) :
    Calls Tryd.prog 17 #[.slice A n c] w fun e w' => e = .returned (.int .i64 (total xs)) ∧ w = w' := by
  have hcell := h.cell
  have hlt := h.ws
  have HL := Lib.hid h.len
  clear h
  go_enter Tryd.func17, Tryd.ntmps17
  go_wp2
  go_loop [3, 8] (fun t i => ∃ k : Nat, k ≤ n ∧ i = .int .i64 k ∧ t = .int .i64 (total (xs.take k))) (fun _ i => n - (intOf i).toNat)
  case atStart => exact ⟨0, Nat.zero_le _, rfl, rfl⟩
  case round =>
    obtain ⟨k, hk, rfl, rfl⟩ := hrel
    have hb1 := total_le (xs.take k)
    have hb2 : (xs.take k).length ≤ k := by rw [List.length_take]; omega
    by_cases h0 : k < n
    · obtain ⟨b, off, rfl, hc⟩ := hcell (by omega)
      have hc1 := hc k h0
      have hk0 : (k : Int) < (n : Int) := by omega
      have H1 := Lib.hid (total_snoc xs k (by rw [HL.out]; exact h0))
      have hb3 := bits_le (wd xs k)
      have hk2 := hlt k
      obtain ⟨t, ht⟩ : ∃ t, total (xs.take k) = t := ⟨_, rfl⟩
      obtain ⟨v, hv⟩ : ∃ v, (bitsOf (wd xs k)).length = v := ⟨_, rfl⟩
      have hcall := onesCount w (wd xs k) hk2
      have HV := Lib.hid hv
      have HT := Lib.hid ht
      rw [hv] at hb3 hcall
      rw [ht] at hb1 ⊢
      clear hcell hc hv ht hk2
      have ht2 : t ≤ 64 * 1048576 := by omega
      clear hb1 hb2
      go_wp2_with (go_at_call 33; refine hcall.mono ?_; rintro e w' ⟨rfl, rfl⟩)
      go_round
      case rel =>
        refine ⟨k + 1, by omega, by go_num, int_eq ?_⟩
        have e := H1.out
        have e2 := HV.out
        unfold wd at e2
        rw [HT.out, e2] at e
        omega
      case measure => simp [intOf]; omega
    · have h1 : ¬ (k : Int) < (n : Int) := by omega
      have H2 := Lib.hid (List.take_of_length_le (l := xs) (i := k) (by rw [HL.out]; omega))
      go_wp2
      go_ret
      exact ⟨ret_int (by rw [H2.out]), rfl⟩

theorem wordsFor (hn : n ≤ maxLen) (h : Rd .i64 w A n zs) :
    Calls Tryd.prog 29 #[.slice A n c] w fun e w' => e = .returned (.int .i64 (wants zs)) ∧ wants zs ≤ 64 ∧ w = w' := by
  unfold maxLen at hn
  have hcell := h.cell
  have HL := Lib.hid h.len
  clear h
  go_enter Tryd.func29, Tryd.ntmps29
  go_wp2
  go_loop [3, 8] (fun t i => ∃ k : Nat, k ≤ n ∧ i = .int .i64 k ∧ t = .int .i64 (wants (zs.take k)) ∧ wants (zs.take k) ≤ 64) (fun _ i => n - (intOf i).toNat)
  case atStart => exact ⟨0, Nat.zero_le _, rfl, rfl, by simp [wants]⟩
  case round =>
    obtain ⟨k, hk, rfl, rfl, hb⟩ := hrel
    by_cases h0 : k < n
    · obtain ⟨b, off, rfl, hc⟩ := hcell (by omega)
      have hc1 := hc k h0
      have hk0 : (k : Int) < (n : Int) := by omega
      have H1 := Lib.hid (show wants (zs.take (k + 1)) = _ by rw [take_snoc zs k (by rw [HL.out]; exact h0), wants_snoc])
      obtain ⟨z, hz⟩ : ∃ z, zs[k]?.getD 0 = z := ⟨_, rfl⟩
      obtain ⟨t, ht⟩ : ∃ t, wants (zs.take k) = t := ⟨_, rfl⟩
      have HT := Lib.hid ht
      have HZ := Lib.hid hz
      rw [hz] at hc1
      rw [ht] at hb ⊢
      clear hcell hc hz ht
      by_cases hm : 0 ≤ z ∧ z ≤ 4095
      · have hq : decide (0 ≤ z ∧ z ≤ 4095) = true := by simp [hm]
        have hz0 := hm.1
        have hz1 := hm.2
        have HM := Lib.hid hm
        clear hm
        go_wp2_with (go_at_call 30; refine (mayBeIn w z).mono ?_; rintro e w' ⟨rfl, rfl⟩)
        go_round
        case rel =>
          have e := H1.out
          rw [HT.out, HZ.out, if_pos HM.out] at e
          refine ⟨k + 1, by omega, by go_num, int_eq ?_, by rw [e]; omega⟩
          rw [e]
          omega
        case measure => simp [intOf]; omega
      · have hq : decide (0 ≤ z ∧ z ≤ 4095) = false := by simp; omega
        have HM := Lib.hid hm
        clear hm
        go_wp2_with (go_at_call 30; refine (mayBeIn w z).mono ?_; rintro e w' ⟨rfl, rfl⟩)
        go_round
        case rel =>
          have e := H1.out
          rw [HT.out, HZ.out, if_neg HM.out] at e
          exact ⟨k + 1, by omega, by go_num, int_eq (by rw [e]), by rw [e]; exact hb⟩
        case measure => simp [intOf]; omega
    · have h1 : ¬ (k : Int) < (n : Int) := by omega
      have H2 := Lib.hid (List.take_of_length_le (l := zs) (i := k) (by rw [HL.out]; omega))
      go_wp2
      go_ret
      exact ⟨ret_int (by rw [H2.out]), by rw [← H2.out]; exact hb, rfl⟩

theorem sameWords (hn : n ≤ maxLen) (h : RdW w A n xs) (h' : RdW w B m ys) :
    Calls Tryd.prog 10 #[.slice A n c, .slice B m d] w fun e w' => e = .returned (.bool (decide (xs = ys))) ∧ ∃ q, w' = w.drewN q := by
  unfold maxLen at hn
  have hcell := h.cell
  have hcell' := h'.cell
  have HL := Lib.hid h.len
  have HL' := Lib.hid h'.len
  clear h h'
  by_cases hnm : n = m
  · subst hnm
    go_enter Tryd.func10, Tryd.ntmps10
    go_wp2
    go_loopw [13] (fun i wr => ∃ k q : Nat, k ≤ n ∧ i = .int .i64 k ∧ (∀ j : Nat, j < k → wd xs j = wd ys j) ∧ wr = w.drewN q) (fun i _ => n - (intOf i).toNat)
    case atStart => exact ⟨0, 0, Nat.zero_le _, rfl, fun j hj => absurd hj (by omega), rfl⟩
    case round =>
      obtain ⟨k, q, hk, rfl, hz, rfl⟩ := hrel
      have HZ := Lib.hid hz
      clear hz
      by_cases h0 : k < n
      · obtain ⟨b, off, rfl, hc⟩ := hcell (by omega)
        obtain ⟨b', off', rfl, hc'⟩ := hcell' (by omega)
        have hc1 := hc k h0
        have hc2 := hc' k h0
        have hk0 : (k : Int) < (n : Int) := by omega
        clear hcell hcell' hc hc'
        by_cases hx : wd xs k = wd ys k
        · have HX := Lib.hid hx
          rw [← hx] at hc2
          clear hx
          go_wp2
          go_quiet (fail)
          go_wp2
          go_roundw
          case rel =>
            refine ⟨k + 1, _, by omega, by go_num, fun j hj => ?_, rfl⟩
            by_cases e : j = k
            · subst e; exact HX.out
            · exact HZ.out j (by omega)
          case measure => simp [intOf]; omega
        · have hx' : ¬ ((wd xs k : Nat) : Int) = ((wd ys k : Nat) : Int) := by omega
          go_wp2
          go_quiet (fail)
          go_wp2
          go_ret
          refine ⟨?_, _, World.drewN_drewN _ _ _⟩
          have : decide (xs = ys) = false := by
            rw [decide_eq_false_iff_not]
            intro e
            exact hx (by rw [e])
          rw [this]; rfl
      · have h1 : ¬ (k : Int) < (n : Int) := by omega
        go_wp2
        go_ret
        refine ⟨?_, _, rfl⟩
        have : decide (xs = ys) = true := by
          rw [decide_eq_true_iff]
          exact list_ext (by rw [HL.out, HL'.out]) (fun j hj => HZ.out j (by rw [HL.out] at hj; omega))
        rw [this]; rfl
  · have h1 : ¬ ((n : Int) = (m : Int)) := by omega
    go_enter Tryd.func10, Tryd.ntmps10
    go_wp2
    go_ret
    refine ⟨?_, 0, rfl⟩
    have : decide (xs = ys) = false := by
      rw [decide_eq_false_iff_not]
      intro e
      subst e
      have e1 := HL.out
      have e2 := HL'.out
      omega
    rw [this]; rfl
theorem int_ext {zs us : List Int} (hl : zs.length = us.length) (h : ∀ j : Nat, j < zs.length → zs[j]?.getD 0 = us[j]?.getD 0) : zs = us := by
  apply List.ext_getElem hl
  intro j h1 h2
  have := h j h1
  rwa [List.getElem?_eq_getElem h1, List.getElem?_eq_getElem h2, Option.getD_some, Option.getD_some] at this
theorem equalInts (hn : n ≤ maxLen) (h : Rd .i64 w A n zs) (h' : Rd .i64 w B m us) :
    Calls Tryd.prog 14 #[.slice A n c, .slice B m d] w fun e w' => e = .returned (.bool (decide (zs = us))) ∧ ∃ q, w' = w.drewN q := by
  unfold maxLen at hn
  have hcell := h.cell
  have hcell' := h'.cell
  have HL := Lib.hid h.len
  have HL' := Lib.hid h'.len
  clear h h'
  by_cases hnm : n = m
  · subst hnm
    go_enter Tryd.func14, Tryd.ntmps14
    go_wp2
    go_loopw [13] (fun i wr => ∃ k q : Nat, k ≤ n ∧ i = .int .i64 k ∧ (∀ j : Nat, j < k → zs[j]?.getD 0 = us[j]?.getD 0) ∧ wr = w.drewN q) (fun i _ => n - (intOf i).toNat)
    case atStart => exact ⟨0, 0, Nat.zero_le _, rfl, fun j hj => absurd hj (by omega), rfl⟩
    case round =>
      obtain ⟨k, q, hk, rfl, hz, rfl⟩ := hrel
      have HZ := Lib.hid hz
      clear hz
      by_cases h0 : k < n
      · obtain ⟨b, off, rfl, hc⟩ := hcell (by omega)
        obtain ⟨b', off', rfl, hc'⟩ := hcell' (by omega)
        have hc1 := hc k h0
        have hc2 := hc' k h0
        have hk0 : (k : Int) < (n : Int) := by omega
        clear hcell hcell' hc hc'
        by_cases hx : zs[k]?.getD 0 = us[k]?.getD 0
        · have HX := Lib.hid hx
          rw [← hx] at hc2
          clear hx
          go_wp2
          go_quiet (fail)
          go_wp2
          go_roundw
          case rel =>
            refine ⟨k + 1, _, by omega, by go_num, fun j hj => ?_, rfl⟩
            by_cases e : j = k
            · subst e; exact HX.out
            · exact HZ.out j (by omega)
          case measure => simp [intOf]; omega
        · have hx' : ¬ zs[k]?.getD 0 = us[k]?.getD 0 := hx
          go_wp2
          go_quiet (fail)
          go_wp2
          go_ret
          refine ⟨?_, _, World.drewN_drewN _ _ _⟩
          have : decide (zs = us) = false := by
            rw [decide_eq_false_iff_not]
            intro e
            exact hx (by rw [e])
          rw [this]; rfl
      · have h1 : ¬ (k : Int) < (n : Int) := by omega
        go_wp2
        go_ret
        refine ⟨?_, _, rfl⟩
        have : decide (zs = us) = true := by
          rw [decide_eq_true_iff]
          exact int_ext (by rw [HL.out, HL'.out]) (fun j hj => HZ.out j (by rw [HL.out] at hj; omega))
        rw [this]; rfl
  · have h1 : ¬ ((n : Int) = (m : Int)) := by omega
    go_enter Tryd.func14, Tryd.ntmps14
    go_wp2
    go_ret
    refine ⟨?_, 0, rfl⟩
    have : decide (zs = us) = false := by
      rw [decide_eq_false_iff_not]
      intro e
      subst e
      have e1 := HL.out
      have e2 := HL'.out
      omega
    rw [this]; rfl
end
end Go.Proofs.YtmmlnfffnfjjnaaDoor.BitsWalks
