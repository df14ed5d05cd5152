/-
  The walks of package bits: what makes a set: And, Less. By an AI agent.
-/
import Derived.Test.YtmmlnfffnfjjnaaDoorBitsMake
namespace Go.Proofs.YtmmlnfffnfjjnaaDoor.BitsWalks
open Go.RowKit Go.Proofs.YtmmlnfffnfjjnaaDoor.Ints Go.Proofs.YtmmlnfffnfjjnaaDoor.Words Go.Proofs.YtmmlnfffnfjjnaaDoor.RdW

section
variable (A B : Option Addr) (n c m d : Nat) (xs ys : List Nat) (w : World)

set_option maxHeartbeats 1000000 in
theorem and_ (hn : n ≤ 1048576) (hm : m ≤ 1048576) (h : RdW w A n xs) (h' : RdW w B m ys) :
    Calls Tryd.prog 22 #[.slice A n c, .slice B m d] w (GotSet w (min n m) (fun k => has xs k && has ys k)) := by
  obtain ⟨i0, hi, hz0, hz1, hz2⟩ := info_parts infoW
  have hw1 := h.ws
  have hw2 := h'.ws
  have HC := Lib.hid h.cell
  have HC' := Lib.hid h'.cell
  obtain ⟨M, hM⟩ : ∃ M, min n m = M := ⟨_, rfl⟩
  have hMi : min (n : Int) (m : Int) = (M : Int) := by omega
  obtain ⟨f, hf⟩ : ∃ f : Nat → Nat, (fun j => wd xs j &&& wd ys j) = f := ⟨_, rfl⟩
  have hfj : ∀ j, wd xs j &&& wd ys j = f j := fun j => by rw [← hf]
  have hfz : ∀ j, M ≤ j → f j = 0 := fun j hj => by
    rw [← hfj]
    rcases Nat.lt_or_ge j n with h1 | h1
    · have e : wd ys j = 0 := out_getD (by rw [h'.len]; omega)
      rw [e, Nat.and_zero]
    · have e : wd xs j = 0 := out_getD (by rw [h.len]; omega)
      rw [e, Nat.zero_and]
  have HF := Lib.hid hfj
  have HFZ := Lib.hid hfz
  have HM := Lib.hid hM
  clear hf hfj hfz
  rw [hM]
  clear hM
  have hM1 : M ≤ n := by have := HM.out; omega
  have hM2 : M ≤ m := by have := HM.out; omega
  go_enter Tryd.func22, Tryd.ntmps22
  go_wp2
  go_loopw [5] (fun i wr => ∃ k q : Nat, k ≤ M ∧ i = .int .i64 k ∧ (∀ j, k ≤ j → f j = 0) ∧ wr = w.drewN q) (fun i _ => (intOf i).toNat)
  case atStart => exact ⟨M, 0, Nat.le_refl _, rfl, HFZ.out, rfl⟩
  case round =>
    obtain ⟨k, q, hk, rfl, hz, rfl⟩ := hrel
    have HZ := Lib.hid hz
    clear hz
    by_cases hgo : 0 < k ∧ f (k - 1) = 0
    · obtain ⟨p, rfl⟩ : ∃ p, k = p + 1 := ⟨k - 1, by omega⟩
      obtain ⟨b, off, rfl, hc⟩ := HC.out (by omega)
      obtain ⟨b', off', rfl, hc'⟩ := HC'.out (by omega)
      have hc1 := hc p (by omega)
      have hc2 := hc' p (by omega)
      have hb := bits_and_u64_nat (wd xs p) (wd ys p) (hw1 p) (hw2 p)
      have e0 : f p = 0 := hgo.2
      rw [HF.out, e0] at hb
      have hpm : (p : Int) < (n : Int) := by omega
      have hpm' : (p : Int) < (m : Int) := by omega
      clear hc hc' hgo
      go_wp2
      go_quiet (fail)
      go_wp2
      go_roundw
      case rel =>
        refine ⟨p, _, by omega, rfl, fun j hj => ?_, rfl⟩
        by_cases e : j = p
        · subst e; exact e0
        · exact HZ.out j (by omega)
      case measure => simp [intOf]
    · have ht : 0 < k → f (k - 1) ≠ 0 := fun h0 e => hgo ⟨h0, e⟩
      have HT := Lib.hid ht
      clear ht hgo
      have b1 : i0.bytes * k ≤ 281474976710656 := by rw [hz2]; omega
      have b2 : k ≤ maxLen := by unfold maxLen; omega
      have b3 : w.heap.size ≤ w.heap.size := Nat.le_refl _
      have HK := Lib.hid hk
      by_cases h0 : 0 < k
      case' pos =>
        obtain ⟨p, hp⟩ : ∃ p, k - 1 = p := ⟨_, rfl⟩
        obtain ⟨b, off, rfl, hc⟩ := HC.out (by omega)
        obtain ⟨b', off', rfl, hc'⟩ := HC'.out (by omega)
        have hc1 := hc p (by omega)
        have hc2 := hc' p (by omega)
        have hb := bits_and_u64_nat (wd xs p) (wd ys p) (hw1 p) (hw2 p)
        have e0 : f p ≠ 0 := by rw [← hp]; exact HT.out h0
        rw [HF.out] at hb
        have hpm : (p : Int) < (n : Int) := by omega
        have hpm' : (p : Int) < (m : Int) := by omega
        have ek : (k : Int) - 1 = (p : Int) := by omega
        clear hc hc' hp
      case' neg =>
        have hk0 : ¬ (0 : Int) < (k : Int) := by omega
      all_goals
        go_wp2
        go_quiet (fail)
      all_goals
        go_wp2_with (at_make; refine wpList_make_full _ rfl _ _ 23 rfl w.heap.size 39 i0 (.int .u64 0) 1 Tryd.underlying23 hi hz0 hz1 .i64 .i64 _ _ k rfl rfl (by omega) (by omega) b1 b2 b3 ?_; intro w1 hmade hgr1; rw [made_words] at hmade)
        have hmade' : Row w1 w.heap.size w.heap.size k k (fill k 0 f) := by rw [fill_zero]; exact hmade
        have hB1 : Below w.heap.size w w1 := Below.grown (by first | exact below_drewN (below_drewN (Below.refl _ _) _) _ | exact below_drewN (Below.refl _ _) _) hgr1 (Nat.le_refl _) (by simp)
        clear hmade hgr1
        go_loopw [35] (fun i wr => ∃ j : Nat, j ≤ k ∧ i = .int .i64 j ∧ Row wr w.heap.size w.heap.size k k (fill k j f) ∧ Below w.heap.size w wr) (fun i _ => k - (intOf i).toNat)
        case atStart => exact ⟨0, Nat.zero_le _, rfl, hmade', hB1⟩
        case round =>
          obtain ⟨j, hj, rfl, hrow, hB⟩ := hrel
          clear hmade' hB1
          have hA := h.below hB
          have hA' := h'.below hB
          by_cases h1 : j < k
          · have hk0 : (j : Int) < (k : Int) := by omega
            obtain ⟨b, off, e1, hc⟩ := hA.cell (by omega)
            obtain ⟨b', off', e2, hc'⟩ := hA'.cell (by omega)
            first
              | (subst e1; subst e2)
              | (injection e1 with e1; injection e1 with e3 e4 _; subst e3; subst e4; injection e2 with e2; injection e2 with e5 e6 _; subst e5; subst e6)
            have hc3 := hc j (by omega)
            have hc4 := hc' j (by omega)
            have hjn : (j : Int) < (n : Int) := by omega
            have hjm : (j : Int) < (m : Int) := by omega
            have hc5 := hrow.cell h1
            have hc6 := hrow.frozenAt j
            have hb := bits_and_u64_nat (wd xs j) (wd ys j) (hw1 j) (hw2 j)
            rw [HF.out] at hb
            have HR := Lib.hid hrow
            have HB := Lib.hid hB
            clear hrow hc hc' hB hA hA'
            go_wp2
            go_region
            all_goals
              go_wp2
              go_roundw
              case rel =>
                exact ⟨j + 1, by omega, by go_num, by have := HR.out.set j (f j); rwa [fill_set] at this, (HB.out.setCell (Nat.le_refl _) _).drew⟩
              case measure => simp [intOf]; omega
          · have h2 : j = k := by omega
            subst h2
            have HR := Lib.hid hrow
            have HB := Lib.hid hB
            clear hrow hB hA hA'
            go_wp2
            go_ret
            have hrow := HR.out
            rw [fill_all _ _ _ (Nat.le_refl _)] at hrow
            refine GotSet.all hrow HK.out (tab_set (fun i => ?_) HZ.out HT.out (fun i => ?_)) HB.out
            · rw [← HF.out]; exact and_lt (hw2 i)
            · rw [← HF.out, Nat.testBit_and]; rfl
set_option maxHeartbeats 1000000 in
theorem less_ (hn : n ≤ 1048576) (hm : m ≤ 1048576) (h : RdW w A n xs) (h' : RdW w B m ys) :
    Calls Tryd.prog 24 #[.slice A n c, .slice B m d] w (GotSet w n (fun k => has xs k && !has ys k)) := by
  obtain ⟨i0, hi, hz0, hz1, hz2⟩ := info_parts infoW
  have hw1 := h.ws
  have hw2 := h'.ws
  have HC := Lib.hid h.cell
  obtain ⟨f, hf⟩ : ∃ f : Nat → Nat, (fun j => anot (wd xs j) (wd ys j)) = f := ⟨_, rfl⟩
  have hfj : ∀ j, anot (wd xs j) (wd ys j) = f j := fun j => by rw [← hf]
  have hfz : ∀ j, n ≤ j → f j = 0 := fun j hj => by
    rw [← hfj]
    have e : wd xs j = 0 := out_getD (by rw [h.len]; omega)
    rw [e, zero_anot]
  have HF := Lib.hid hfj
  have HFZ := Lib.hid hfz
  clear hf hfj hfz
  go_enter Tryd.func24, Tryd.ntmps24
  go_wp2
  go_loopw [5] (fun i wr => ∃ k q : Nat, k ≤ n ∧ i = .int .i64 k ∧ (∀ j, k ≤ j → f j = 0) ∧ wr = w.drewN q) (fun i _ => (intOf i).toNat)
  case atStart => exact ⟨n, 0, Nat.le_refl _, rfl, HFZ.out, rfl⟩
  case round =>
    obtain ⟨k, q, hk, rfl, hz, rfl⟩ := hrel
    have HZ := Lib.hid hz
    clear hz
    by_cases hgo : 0 < k ∧ f (k - 1) = 0
    · obtain ⟨p, rfl⟩ : ∃ p, k = p + 1 := ⟨k - 1, by omega⟩
      obtain ⟨b, off, rfl, hc⟩ := HC.out (by omega)
      have hc1 := hc p (by omega)
      have hb := bits_andNot_u64 (wd xs p) (wd ys p) (hw1 p) (hw2 p)
      have e0 : f p = 0 := hgo.2
      rw [HF.out, e0] at hb
      have hpm : (p : Int) < (n : Int) := by omega
      clear hc hgo
      go_wp2
      go_quiet ((go_at_call 31; refine (word B m d ys _ p (by first | exact h'.drewN _ | exact h')).mono ?_; rintro e w' ⟨rfl, rfl⟩; exact ⟨rfl, _, rfl⟩))
      go_wp2
      go_roundw
      case rel =>
        refine ⟨p, _, by omega, rfl, fun j hj => ?_, rfl⟩
        by_cases e : j = p
        · subst e; exact e0
        · exact HZ.out j (by omega)
      case measure => simp [intOf]
    · have ht : 0 < k → f (k - 1) ≠ 0 := fun h0 e => hgo ⟨h0, e⟩
      have HT := Lib.hid ht
      clear ht hgo
      have b1 : i0.bytes * k ≤ 281474976710656 := by rw [hz2]; omega
      have b2 : k ≤ maxLen := by unfold maxLen; omega
      have b3 : w.heap.size ≤ w.heap.size := Nat.le_refl _
      have HK := Lib.hid hk
      by_cases h0 : 0 < k
      case' pos =>
        obtain ⟨p, hp⟩ : ∃ p, k - 1 = p := ⟨_, rfl⟩
        obtain ⟨b, off, rfl, hc⟩ := HC.out (by omega)
        have hc1 := hc p (by omega)
        have hb := bits_andNot_u64 (wd xs p) (wd ys p) (hw1 p) (hw2 p)
        have e0 : f p ≠ 0 := by rw [← hp]; exact HT.out h0
        rw [HF.out] at hb
        have hpm : (p : Int) < (n : Int) := by omega
        have ek : (k : Int) - 1 = (p : Int) := by omega
        clear hc hp
      case' neg =>
        have hk0 : ¬ (0 : Int) < (k : Int) := by omega
      all_goals
        go_wp2
        go_quiet ((go_at_call 31; refine (word B m d ys _ p (by first | exact h'.drewN _ | exact h')).mono ?_; rintro e w' ⟨rfl, rfl⟩; exact ⟨rfl, _, rfl⟩))
      all_goals
        go_wp2_with (at_make; refine wpList_make_full _ rfl _ _ 23 rfl w.heap.size 39 i0 (.int .u64 0) 1 Tryd.underlying23 hi hz0 hz1 .i64 .i64 _ _ k rfl rfl (by omega) (by omega) b1 b2 b3 ?_; intro w1 hmade hgr1; rw [made_words] at hmade)
        have hmade' : Row w1 w.heap.size w.heap.size k k (fill k 0 f) := by rw [fill_zero]; exact hmade
        have hB1 : Below w.heap.size w w1 := Below.grown (by first | exact below_drewN (below_drewN (Below.refl _ _) _) _ | exact below_drewN (Below.refl _ _) _) hgr1 (Nat.le_refl _) (by simp)
        clear hmade hgr1
        go_loopw [31] (fun i wr => ∃ j : Nat, j ≤ k ∧ i = .int .i64 j ∧ Row wr w.heap.size w.heap.size k k (fill k j f) ∧ Below w.heap.size w wr) (fun i _ => k - (intOf i).toNat)
        case atStart => exact ⟨0, Nat.zero_le _, rfl, hmade', hB1⟩
        case round =>
          obtain ⟨j, hj, rfl, hrow, hB⟩ := hrel
          clear hmade' hB1
          have hA := h.below hB
          have hA' := h'.below hB
          by_cases h1 : j < k
          · have hk0 : (j : Int) < (k : Int) := by omega
            obtain ⟨b, off, e1, hc⟩ := hA.cell (by omega)
            first
              | subst e1
              | (injection e1 with e1; injection e1 with e3 e4 _; subst e3; subst e4)
            have hc3 := hc j (by omega)
            have hjn : (j : Int) < (n : Int) := by omega
            have hc5 := hrow.cell h1
            have hc6 := hrow.frozenAt j
            have hb := bits_andNot_u64 (wd xs j) (wd ys j) (hw1 j) (hw2 j)
            rw [HF.out] at hb
            have HR := Lib.hid hrow
            have HB := Lib.hid hB
            clear hrow hc hB hA
            go_wp2
            go_region_with ((go_at_call 31; refine (word B m d ys _ j (by first | exact hA' | exact hA'.drew | exact hA'.drewN _)).mono ?_; rintro e w' ⟨rfl, rfl⟩))
            all_goals
              go_wp2
              go_roundw
              case rel =>
                exact ⟨j + 1, by omega, by go_num, by have := HR.out.set j (f j); rwa [fill_set] at this, (HB.out.setCell (Nat.le_refl _) _).drew⟩
              case measure => simp [intOf]; omega
          · have h2 : j = k := by omega
            subst h2
            have HR := Lib.hid hrow
            have HB := Lib.hid hB
            clear hrow hB hA hA'
            go_wp2
            go_ret
            have hrow := HR.out
            rw [fill_all _ _ _ (Nat.le_refl _)] at hrow
            refine GotSet.all hrow HK.out (tab_set (fun i => ?_) HZ.out HT.out (fun i => ?_)) HB.out
            · rw [← HF.out]; exact anot_lt (hw1 i)
            · rw [← HF.out, anot_bit]; rfl
end
end Go.Proofs.YtmmlnfffnfjjnaaDoor.BitsWalks
