/-
  The walks of the reference: what makes a set: Trim, Or, And, Less. By an AI agent.
-/
import Derived.Test.YtmmlnfffnfjjnaaDoorBitsMake
namespace Go.Proofs.YtmmlnfffnfjjnaaDoor.BitsWalks
open Go.RowKit Go.Proofs.YtmmlnfffnfjjnaaDoor.Ints Go.Proofs.YtmmlnfffnfjjnaaDoor.Words Go.Proofs.YtmmlnfffnfjjnaaDoor.RdW

theorem GotSet.after {w w1 w2 : World} {L L' : Nat} {f g : Nat → Bool} {e : Ending} (h : GotSet w1 L f e w2) (hb : Below w.heap.size w w1) (hL : L ≤ L') (hfg : ∀ k, f k = g k) : GotSet w L' g e w2 := by
  obtain ⟨A, n, c, zs, h1, h2, h3, h4, h5, h6, h7⟩ := h
  exact ⟨A, n, c, zs, h1, h2.congr hfg, h3, h4, h5, Nat.le_trans h6 hL, hb.trans (h7.mono hb.size)⟩
theorem GotSet.own {w w1 : World} {L k base : Nat} {f : Nat → Bool} {v : Value} {zs : List Nat} (h : w1.ownsRow base 39 1 v k ((ints zs).map (Value.int .u64))) (hs : IsSet zs f) (hL : k ≤ L) (hb : Below w.heap.size w w1) : GotSet w L f (.returned v) w1 := by
  obtain ⟨A, c, rfl, h1, h2, _⟩ := own_slice h
  exact ⟨A, k, c, zs, rfl, hs, RdW.own h hs.1, h1, h2, hL, hb⟩

section
variable (A B : Option Addr) (n c m d : Nat) (xs ys : List Nat) (w : World)

set_option maxHeartbeats 400000 in
theorem refTrim (hn : n ≤ 1048576) (hnc : n ≤ c) (hc : c ≤ maxLen) (h : RdW w A n xs) :
    Calls Tryd.prog 19 #[.slice A n c] w (GotSet w n (has xs)) := by
  obtain ⟨i0, hi, hz0, hz1, hz2⟩ := info_parts infoW
  have HC := Lib.hid h.cell
  have HL := Lib.hid h.len
  go_enter Tryd.func19, Tryd.ntmps19
  go_wp2
  go_loop [3] (fun i => ∃ k : Nat, k ≤ n ∧ i = .int .i64 k ∧ ∀ j : Nat, k ≤ j → xs[j]?.getD 0 = 0) (fun i => (intOf i).toNat)
  case atStart => exact ⟨n, Nat.le_refl _, rfl, fun j hj => out_getD (by rw [HL.out]; exact hj)⟩
  case round =>
    obtain ⟨k, hk, rfl, hz⟩ := hrel
    have HZ := Lib.hid hz
    clear hz
    by_cases hgo : 0 < k ∧ wd xs (k - 1) = 0
    · obtain ⟨q, rfl⟩ : ∃ q, k = q + 1 := ⟨k - 1, by omega⟩
      obtain ⟨b, off, rfl, hc'⟩ := HC.out (by omega)
      have hc1 := hc' q (by omega)
      have hx : wd xs q = 0 := hgo.2
      have hqn : (q : Int) < (n : Int) := by omega
      clear hc' hgo
      go_wp2
      go_round
      case rel =>
        refine ⟨q, by omega, rfl, fun j hj => ?_⟩
        by_cases e : j = q
        · subst e; exact hx
        · exact HZ.out j (by omega)
      case measure => simp [intOf]
    · have HT := Lib.hid (show Used xs k from ⟨by rw [HL.out]; exact hk, HZ.out, fun h0 e => hgo ⟨h0, e⟩⟩)
      have hsub := h.take hk
      have hkc : (k : Int) ≤ (c : Int) := by omega
      have hk0' : (0 : Int) ≤ (k : Int) := by omega
      have q1 : 0 + k ≤ maxLen := by unfold maxLen; omega
      have q2 : (0 + k) * 8 ≤ 140737488355328 := by omega
      have q3 : w.heap.size ≤ (w.alloc (.cells #[] 39)).heap.size := by simp
      clear hgo
      by_cases h0 : 0 < k
      case' pos =>
        obtain ⟨p, hp⟩ : ∃ p, k - 1 = p := ⟨_, rfl⟩
        obtain ⟨b, off, rfl, hc'⟩ := HC.out (by omega)
        have hc1 := hc' p (by omega)
        have hx : ¬ wd xs p = 0 := by rw [← hp]; exact HT.out.2.2 h0
        have hqn : (p : Int) < (n : Int) := by omega
        have ek : (k : Int) - 1 = (p : Int) := by omega
        clear hc' hp
      case' neg =>
        have hk0 : ¬ (0 : Int) < (k : Int) := by omega
      all_goals
        go_wp2_with (at_builtin; refine wpList_append_ints rfl _ _ 23 rfl .u64 w.heap.size 39 i0 8 Tryd.underlying23 hi hz0 hz1 hz2 (.slice (some ⟨w.heap.size, 0, none⟩) 0 0) 0 [] rfl (World.ownsRow_made w #[] 0 (Nat.le_refl _) (by decide) rfl) _ _ _ (ints (xs.take k)) rfl (Rd.alloc hsub _) q1 q2 q3 ?_; intro v' w1 hown hgr; simp only [Nat.zero_add, List.nil_append] at hown)
        go_ret
        exact GotSet.own hown (HT.out.set h.ws (fun _ => rfl)) hk (((Below.refl _ _).alloc (Nat.le_refl _) _).grown hgr (by simp) (by rintro k hk; simp [Value.ownBlock] at hk; omega))

set_option maxHeartbeats 400000 in
theorem refOr (hn : n ≤ 1048576) (hm : m ≤ 1048576) (h : RdW w A n xs) (h' : RdW w B m ys) :
    Calls Tryd.prog 21 #[.slice A n c, .slice B m d] w (GotSet w (max n m) (fun k => has xs k || has ys k)) := by
  obtain ⟨i0, hi, hz0, hz1, hz2⟩ := info_parts infoW
  have hw1 := h.ws
  have hw2 := h'.ws
  obtain ⟨K, hK⟩ : ∃ K, max n m = K := ⟨_, rfl⟩
  have hKi : max (n : Int) (m : Int) = (K : Int) := by omega
  have hKn : K ≤ 1048576 := by omega
  have b1 : i0.bytes * K ≤ 281474976710656 := by rw [hz2]; omega
  have b2 : K ≤ maxLen := by unfold maxLen; omega
  obtain ⟨f, hf⟩ : ∃ f : Nat → Nat, (fun j => wd xs j ||| wd ys j) = f := ⟨_, rfl⟩
  have hfj : ∀ j, wd xs j ||| wd ys j = f j := fun j => by rw [← hf]
  have hfz : ∀ j, K ≤ j → f j = 0 := fun j hj => by
    have e1 : wd xs j = 0 := out_getD (by rw [h.len]; omega)
    have e2 : wd ys j = 0 := out_getD (by rw [h'.len]; omega)
    rw [← hfj, e1, e2]; rfl
  rw [hK]
  have HF := Lib.hid hfj
  have HZ := Lib.hid hfz
  clear hf hfj hfz hK
  go_enter Tryd.func21, Tryd.ntmps21
  go_wp2_with (at_make; refine wpList_make_full _ rfl _ _ 23 rfl w.heap.size 39 i0 (.int .u64 0) 1 Tryd.underlying23 hi hz0 hz1 .i64 .i64 _ _ K rfl rfl (by omega) (by omega) b1 b2 (Nat.le_refl _) ?_; intro w1 hmade hgr1; rw [made_words] at hmade)
  have hmade' : Row w1 w.heap.size w.heap.size K K (fill K 0 f) := by rw [fill_zero]; exact hmade
  have hB1 : Below w.heap.size w w1 := (Below.refl _ _).grown hgr1 (Nat.le_refl _) (by simp)
  clear hmade hgr1
  go_loopw [15] (fun i wr => ∃ k : Nat, k ≤ K ∧ i = .int .i64 k ∧ Row wr w.heap.size w.heap.size K K (fill K k f) ∧ Below w.heap.size w wr) (fun i _ => K - (intOf i).toNat)
  case atStart => exact ⟨0, Nat.zero_le _, rfl, hmade', hB1⟩
  case round =>
    obtain ⟨k, hk, rfl, hrow, hB⟩ := hrel
    clear hmade' hB1
    have hA := h.below hB
    have hA' := h'.below hB
    by_cases h0 : k < K
    · have hk0 : (k : Int) < (K : Int) := by omega
      have hc1 := hrow.cell h0
      have hc2 := hrow.frozenAt k
      have hb := bits_or_u64_nat (wd xs k) (wd ys k) (hw1 k) (hw2 k)
      rw [HF.out] at hb
      have HR := Lib.hid hrow
      clear hrow
      go_wp2_with fail
      refine (refWord A n c xs wr k hA).mono ?_
      rintro e w' ⟨rfl, rfl⟩
      go_wp2_with fail
      refine (refWord B m d ys wr k hA').mono ?_
      rintro e w' ⟨rfl, rfl⟩
      go_wp2
      go_roundw
      case rel =>
        exact ⟨k + 1, by omega, by go_num, by have := HR.out.set k (f k); rwa [fill_set] at this, hB.setCell (Nat.le_refl _) _⟩
      case measure => simp [intOf]; omega
    · have h1 : k = K := by omega
      subst h1
      have hws : Ws (fill k k f) := by
        intro i
        rw [fill_at]
        split
        · rw [← HF.out]; exact or_lt (hw1 i) (hw2 i)
        · omega
      go_wp2_with fail
      refine (refTrim _ k k _ wr hKn (Nat.le_refl _) b2 (hrow.reads hws)).mono ?_
      intro e w2 hg1
      have hgot := hg1.after hB (Nat.le_refl _) (g := fun i => has xs i || has ys i) (fun i => by
        rw [fill_all _ _ _ (Nat.le_refl _), has_tab HZ.out, ← HF.out, Nat.testBit_or]; rfl)
      clear hg1
      obtain ⟨D, n2, c2, zs, rfl, hgot⟩ := hgot
      go_wp2
      go_ret
      exact ⟨D, n2, c2, zs, rfl, hgot⟩

set_option maxHeartbeats 400000 in
theorem refAnd (hn : n ≤ 1048576) (hm : m ≤ 1048576) (h : RdW w A n xs) (h' : RdW w B m ys) :
    Calls Tryd.prog 23 #[.slice A n c, .slice B m d] w (GotSet w (max n m) (fun k => has xs k && has ys k)) := by
  obtain ⟨i0, hi, hz0, hz1, hz2⟩ := info_parts infoW
  have hw1 := h.ws
  have hw2 := h'.ws
  obtain ⟨K, hK⟩ : ∃ K, max n m = K := ⟨_, rfl⟩
  have hKi : max (n : Int) (m : Int) = (K : Int) := by omega
  have hKn : K ≤ 1048576 := by omega
  have b1 : i0.bytes * K ≤ 281474976710656 := by rw [hz2]; omega
  have b2 : K ≤ maxLen := by unfold maxLen; omega
  obtain ⟨f, hf⟩ : ∃ f : Nat → Nat, (fun j => wd xs j &&& wd ys j) = f := ⟨_, rfl⟩
  have hfj : ∀ j, wd xs j &&& wd ys j = f j := fun j => by rw [← hf]
  have hfz : ∀ j, K ≤ j → f j = 0 := fun j hj => by
    have e1 : wd xs j = 0 := out_getD (by rw [h.len]; omega)
    have e2 : wd ys j = 0 := out_getD (by rw [h'.len]; omega)
    rw [← hfj, e1, e2]; rfl
  rw [hK]
  have HF := Lib.hid hfj
  have HZ := Lib.hid hfz
  clear hf hfj hfz hK
  go_enter Tryd.func23, Tryd.ntmps23
  go_wp2_with (at_make; refine wpList_make_full _ rfl _ _ 23 rfl w.heap.size 39 i0 (.int .u64 0) 1 Tryd.underlying23 hi hz0 hz1 .i64 .i64 _ _ K rfl rfl (by omega) (by omega) b1 b2 (Nat.le_refl _) ?_; intro w1 hmade hgr1; rw [made_words] at hmade)
  have hmade' : Row w1 w.heap.size w.heap.size K K (fill K 0 f) := by rw [fill_zero]; exact hmade
  have hB1 : Below w.heap.size w w1 := (Below.refl _ _).grown hgr1 (Nat.le_refl _) (by simp)
  clear hmade hgr1
  go_loopw [15] (fun i wr => ∃ k : Nat, k ≤ K ∧ i = .int .i64 k ∧ Row wr w.heap.size w.heap.size K K (fill K k f) ∧ Below w.heap.size w wr) (fun i _ => K - (intOf i).toNat)
  case atStart => exact ⟨0, Nat.zero_le _, rfl, hmade', hB1⟩
  case round =>
    obtain ⟨k, hk, rfl, hrow, hB⟩ := hrel
    clear hmade' hB1
    have hA := h.below hB
    have hA' := h'.below hB
    by_cases h0 : k < K
    · have hk0 : (k : Int) < (K : Int) := by omega
      have hc1 := hrow.cell h0
      have hc2 := hrow.frozenAt k
      have hb := bits_and_u64_nat (wd xs k) (wd ys k) (hw1 k) (hw2 k)
      rw [HF.out] at hb
      have HR := Lib.hid hrow
      clear hrow
      go_wp2_with fail
      refine (refWord A n c xs wr k hA).mono ?_
      rintro e w' ⟨rfl, rfl⟩
      go_wp2_with fail
      refine (refWord B m d ys wr k hA').mono ?_
      rintro e w' ⟨rfl, rfl⟩
      go_wp2
      go_roundw
      case rel =>
        exact ⟨k + 1, by omega, by go_num, by have := HR.out.set k (f k); rwa [fill_set] at this, hB.setCell (Nat.le_refl _) _⟩
      case measure => simp [intOf]; omega
    · have h1 : k = K := by omega
      subst h1
      have hws : Ws (fill k k f) := by
        intro i
        rw [fill_at]
        split
        · rw [← HF.out]; exact and_lt (hw2 i)
        · omega
      go_wp2_with fail
      refine (refTrim _ k k _ wr hKn (Nat.le_refl _) b2 (hrow.reads hws)).mono ?_
      intro e w2 hg1
      have hgot := hg1.after hB (Nat.le_refl _) (g := fun i => has xs i && has ys i) (fun i => by
        rw [fill_all _ _ _ (Nat.le_refl _), has_tab HZ.out, ← HF.out, Nat.testBit_and]; rfl)
      clear hg1
      obtain ⟨D, n2, c2, zs, rfl, hgot⟩ := hgot
      go_wp2
      go_ret
      exact ⟨D, n2, c2, zs, rfl, hgot⟩
set_option maxHeartbeats 400000 in
theorem refLess (hn : n ≤ 1048576) (hm : m ≤ 1048576) (h : RdW w A n xs) (h' : RdW w B m ys) :
    Calls Tryd.prog 18 #[.slice A n c, .slice B m d] w (GotSet w n (fun k => has xs k && !has ys k)) := by
  obtain ⟨i0, hi, hz0, hz1, hz2⟩ := info_parts infoW
  have hw1 := h.ws
  have hw2 := h'.ws
  have b1 : i0.bytes * n ≤ 281474976710656 := by rw [hz2]; omega
  have b2 : n ≤ maxLen := by unfold maxLen; omega
  obtain ⟨f, hf⟩ : ∃ f : Nat → Nat, (fun j => anot (wd xs j) (wd ys j)) = f := ⟨_, rfl⟩
  have hfj : ∀ j, anot (wd xs j) (wd ys j) = f j := fun j => by rw [← hf]
  have hfz : ∀ j, n ≤ j → f j = 0 := fun j hj => by
    have e1 : wd xs j = 0 := out_getD (by rw [h.len]; omega)
    rw [← hfj, e1, zero_anot]
  have HF := Lib.hid hfj
  have HZ := Lib.hid hfz
  clear hf hfj hfz
  go_enter Tryd.func18, Tryd.ntmps18
  go_wp2_with (at_make; refine wpList_make_full _ rfl _ _ 23 rfl w.heap.size 39 i0 (.int .u64 0) 1 Tryd.underlying23 hi hz0 hz1 .i64 .i64 _ _ n rfl rfl (by omega) (by omega) b1 b2 (Nat.le_refl _) ?_; intro w1 hmade hgr1; rw [made_words] at hmade)
  have hmade' : Row w1 w.heap.size w.heap.size n n (fill n 0 f) := by rw [fill_zero]; exact hmade
  have hB1 : Below w.heap.size w w1 := (Below.refl _ _).grown hgr1 (Nat.le_refl _) (by simp)
  clear hmade hgr1
  go_loopw [12] (fun i wr => ∃ k : Nat, k ≤ n ∧ i = .int .i64 k ∧ Row wr w.heap.size w.heap.size n n (fill n k f) ∧ Below w.heap.size w wr) (fun i _ => n - (intOf i).toNat)
  case atStart => exact ⟨0, Nat.zero_le _, rfl, hmade', hB1⟩
  case round =>
    obtain ⟨k, hk, rfl, hrow, hB⟩ := hrel
    clear hmade' hB1
    have hA := h.below hB
    have hA' := h'.below hB
    by_cases h0 : k < n
    · have hk0 : (k : Int) < (n : Int) := by omega
      have hc1 := hrow.cell h0
      have hc2 := hrow.frozenAt k
      have hb := bits_andNot_u64 (wd xs k) (wd ys k) (hw1 k) (hw2 k)
      rw [HF.out] at hb
      obtain ⟨b, off, e1, hc⟩ := hA.cell (by omega)
      subst e1
      have hc3 := hc k (by omega)
      have HR := Lib.hid hrow
      have HB := Lib.hid hB
      clear hrow hB hA hc
      go_wp2
      go_region_with ((go_at_call 34; refine (refWord B m d ys _ k (by first | exact hA' | exact hA'.drew | exact hA'.drewN _)).mono ?_; rintro e w' ⟨rfl, rfl⟩))
      all_goals
        go_wp2
        go_roundw
        case rel =>
          exact ⟨k + 1, by omega, by go_num, by have := HR.out.set k (f k); rwa [fill_set] at this, (HB.out.setCell (Nat.le_refl _) _).drew⟩
        case measure => simp [intOf]; omega
    · have h1 : k = n := by omega
      subst h1
      have hws : Ws (fill k k f) := by
        intro i
        rw [fill_at]
        split
        · rw [← HF.out]; exact anot_lt (hw1 i)
        · omega
      go_wp2_with fail
      refine (refTrim _ k k _ wr hn (Nat.le_refl _) b2 (hrow.reads hws)).mono ?_
      intro e w2 hg1
      have hgot := hg1.after hB (Nat.le_refl _) (g := fun i => has xs i && !has ys i) (fun i => by
        rw [fill_all _ _ _ (Nat.le_refl _), has_tab HZ.out, ← HF.out, anot_bit]; rfl)
      clear hg1
      obtain ⟨D, n2, c2, zs, rfl, hgot⟩ := hgot
      go_wp2
      go_ret
      exact ⟨D, n2, c2, zs, rfl, hgot⟩
end
end Go.Proofs.YtmmlnfffnfjjnaaDoor.BitsWalks
