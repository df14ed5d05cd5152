/-
  The walk of package bits: Cut. By an AI agent.
-/
import Derived.Test.YtmmlnfffnfjjnaaDoorBitsMake
namespace Go.Proofs.YtmmlnfffnfjjnaaDoor.BitsWalks
open Go.RowKit Go.Proofs.YtmmlnfffnfjjnaaDoor.Ints Go.Proofs.YtmmlnfffnfjjnaaDoor.Words Go.Proofs.YtmmlnfffnfjjnaaDoor.RdW

theorem Row.heap {w : World} {base g K : Nat} {xs : List Nat} (h : Row w base g K K xs) : w.heap[g]? = some (.cells ((ints xs).map (Value.int .u64)).toArray 39 (0, 0)) := by
  rcases h.2 with ⟨h1, _⟩ | ⟨g', cap, cur, h1, _, hh, _, _, hs, hx⟩
  · cases h1
  · injection h1 with e1 _ e2
    injection e1 with e1
    injection e1 with e1
    subst e1; subst e2
    rw [List.take_of_length_le (by simp [hs])] at hx
    rw [hh, ← hx]
theorem Row.of_heap {w : World} {base g K : Nat} {xs : List Nat} (hl : xs.length = K) (hb : base ≤ g) (hK : K ≤ maxLen) (h : w.heap[g]? = some (.cells ((ints xs).map (Value.int .u64)).toArray 39 (0, 0))) : Row w base g K K xs := by
  refine ⟨by simp [ints, hl], .inr ⟨g, K, _, rfl, hb, h, Nat.le_refl _, hK, by simp [ints, hl], ?_⟩⟩
  rw [List.take_of_length_le (by simp [ints, hl])]

theorem mask_low (x b : Nat) (hx : x < 18446744073709551616) (hb : b < 64) : bits .and .u64 (x : Int) (IntKind.u64.wrap (IntKind.u64.wrap ((2 : Int) ^ b) - 1)) = ((x % 2 ^ b : Nat) : Int) := by
  have h1 : 2 ^ b < 2 ^ 64 := Nat.pow_lt_pow_right (by omega) hb
  have h0 := Nat.two_pow_pos b
  have e1 : (2 : Int) ^ b = ((2 ^ b : Nat) : Int) := by rw [Int.natCast_pow]; rfl
  have e2 : IntKind.u64.wrap (IntKind.u64.wrap ((2 : Int) ^ b) - 1) = ((2 ^ b - 1 : Nat) : Int) := by
    rw [e1, IntKind.wrap_u64, IntKind.wrap_u64]
    omega
  rw [e2, bits_and_u64_nat x (2 ^ b - 1) hx (by omega), Nat.and_two_pow_sub_one_eq_mod]
/-- The words below p, and the low bits of word p. -/
theorem has_cut {xs : List Nat} {n p b v N : Nat} (hl : xs.length = n) (hw : Ws xs) (hpn : p < n) (hN : N = 64 * p + b) (hb : b < 64) (hv : wd xs p % 2 ^ b = v) :
    Ws ((xs.take (p + 1)).set p v) ∧ ∀ k, has ((xs.take (p + 1)).set p v) k = (has xs k && decide (k < N)) := by
  have hlt : v < 18446744073709551616 := by
    rw [← hv]
    exact Nat.lt_of_le_of_lt (Nat.mod_le _ _) (hw p)
  have hat : ∀ j : Nat, ((xs.take (p + 1)).set p v)[j]?.getD 0 = if j < p then xs[j]?.getD 0 else if j = p then v else 0 := fun j => by
    rw [List.getElem?_set, List.length_take, hl]
    by_cases h1 : p = j
    · subst h1
      simp [show p < min (p + 1) n by omega]
    · rw [if_neg h1, if_neg (show ¬ j = p by omega), take_getD]
      by_cases h2 : j < p
      · rw [if_pos (by omega), if_pos h2]
      · rw [if_neg (by omega), if_neg h2]
  refine ⟨fun j => ?_, fun k => ?_⟩
  · rw [hat]
    split
    · exact hw j
    · split
      · exact hlt
      · omega
  · unfold has
    rw [hat]
    by_cases h1 : k / 64 < p
    · rw [if_pos h1]
      have : decide (k < N) = true := by simp; omega
      rw [this, Bool.and_true]
    · rw [if_neg h1]
      by_cases h2 : k / 64 = p
      · rw [if_pos h2, ← hv, Nat.testBit_mod_two_pow, h2]
        have e : decide (k % 64 < b) = decide (k < N) := by
          congr 1
          apply propext
          omega
        rw [e, Bool.and_comm]
        rfl
      · rw [if_neg h2]
        have : decide (k < N) = false := by simp; omega
        rw [this]
        simp

theorem copy_facts {A : Option Addr} {n K : Nat} {xs : List Nat} {w w1 : World} (hKn : K ≤ n) (h : RdW w A n xs)
    (hmade : w1.ownsRow w.heap.size 39 1 (.slice (some ⟨w.heap.size, 0, none⟩) K K) K ((ints (List.replicate K 0)).map (Value.int .u64))) (hgr1 : w.grownBy w1 none) :
    ∃ X : List Value, Hid (X = (ints (xs.take K)).map (Value.int .u64)) ∧ X.length = Nat.min n K ∧
      (0 < X.length → some (⟨w.heap.size, 0, none⟩ : Addr) = some ⟨w.heap.size, 0, none⟩ ∧ ∃ ad, A = some ad ∧ ∀ (j : Nat) v, X[j]? = some v → w1.cell? (ad.add j) = some v) ∧
      0 + X.length ≤ ((ints (List.replicate K 0)).map (Value.int .u64)).length ∧ (∀ v ∈ X, v.oneCell' = true) ∧
      w1.heap[w.heap.size]? = some (.cells ((ints (List.replicate K 0)).map (Value.int .u64)).toArray 39 (0, 0)) ∧ Below w.heap.size w w1 := by
  have hR1 : Row w1 w.heap.size w.heap.size K K (List.replicate K 0) := hmade
  have hB1 : Below w.heap.size w w1 := (Below.refl _ _).grown hgr1 (Nat.le_refl _) (by simp)
  have hx1 := (h.below hB1).take hKn
  have f0 : ((ints (xs.take K)).map (Value.int .u64)).length = K := by rw [List.length_map, ints_len]; exact hx1.len
  refine ⟨_, Lib.hid rfl, by rw [f0]; exact (Nat.min_eq_right hKn).symm, fun h0 => ?_, by rw [f0]; simp [ints], one_cell _ _, hR1.heap, hB1⟩
  obtain ⟨b, off, e, hc⟩ := hx1.cell (by omega)
  refine ⟨rfl, _, e, fun j v hv => ?_⟩
  have hj : j < K := by
    rcases Nat.lt_or_ge j K with h1 | h1
    · exact h1
    · rw [List.getElem?_eq_none (by omega)] at hv; cases hv
  have h2 : (⟨b, off, none⟩ : Addr).add j = ⟨b, off + j, none⟩ := by unfold Addr.add; split <;> simp_all
  rw [h2, hc j hj]
  rw [List.getElem?_map] at hv
  cases e4 : (ints (xs.take K))[j]? with
  | none => rw [e4] at hv; cases hv
  | some z =>
    rw [e4] at hv
    have h3 := ints_at (xs.take K) j
    rw [e4] at h3
    simp only [Option.getD_some] at h3
    rw [h3] at hv
    exact hv

theorem copy_row {n K : Nat} {xs : List Nat} {w0 w2 : World} {X : List Value} (hKn : K ≤ n) (hl : xs.length = n) (hK : K ≤ maxLen) (HX : Hid (X = (ints (xs.take K)).map (Value.int .u64)))
    (hH : Hid (w2.heap[w0.heap.size]? = some (.cells (splice ((ints (List.replicate K 0)).map (Value.int .u64)) 0 X).toArray 39 (0, 0)))) : Row w2 w0.heap.size w0.heap.size K K (xs.take K) := by
  have hl2 : (xs.take K).length = K := by rw [List.length_take]; omega
  have e : splice ((ints (List.replicate K 0)).map (Value.int .u64)) 0 X = (ints (xs.take K)).map (Value.int .u64) := by
    rw [HX.out]
    unfold splice
    rw [List.take_zero, List.nil_append, List.drop_of_length_le (by rw [List.length_map, List.length_map, ints_len, ints_len, List.length_replicate, hl2]; omega), List.append_nil]
  have h := hH.out
  rw [e] at h
  exact Row.of_heap hl2 (Nat.le_refl _) hK h

section
variable (A B : Option Addr) (n c m d : Nat) (xs ys : List Nat) (w : World)

theorem cutNone (k : Int) (L : Nat) (hk : k ≤ 0) :
    Calls Tryd.prog 27 #[.slice A n c, .int .i64 k] w (GotSet w L (fun i => has xs i && decide ((i : Int) < k))) := by
  go_enter Tryd.func27, Tryd.ntmps27
  go_wp2
  go_ret
  refine ⟨none, 0, 0, [], rfl, ⟨fun j => by simp, fun h => absurd h (by simp), fun i => ?_⟩, RdW.nil _ _, by omega, by decide, by omega, Below.refl _ _⟩
  have e : decide ((i : Int) < k) = false := by simp; omega
  show has [] i = (has xs i && decide ((i : Int) < k))
  rw [e, Bool.and_false]
  simp [has]

set_option maxHeartbeats 1000000 in
theorem cutSome (N : Nat) (hN : 0 < N) (hN2 : N ≤ 9223372036854775807) (hn : n ≤ 1048576) (h : RdW w A n xs) :
    Calls Tryd.prog 27 #[.slice A n c, .int .i64 (N : Nat)] w (GotSet w n (fun i => has xs i && decide (i < N))) := by
  obtain ⟨i0, hi, hz0, hz1, hz2⟩ := info_parts infoW
  obtain ⟨p, hp⟩ : ∃ p, N / 64 = p := ⟨_, rfl⟩
  obtain ⟨b, hb⟩ : ∃ b, N % 64 = b := ⟨_, rfl⟩
  obtain ⟨K, hK⟩ : ∃ K, min n (p + 1) = K := ⟨_, rfl⟩
  have e1 : (N : Int) / 64 = (p : Int) := by omega
  have e2 : (N : Int) % 64 = (b : Int) := by omega
  have e3 : (b : Int) ≤ 64 := by omega
  have hKi : min (n : Int) ((p : Int) + 1) = (K : Int) := by omega
  have hN0 : ¬ (N : Int) ≤ 0 := by omega
  have hNb : (N : Int) ≤ 9223372036854775807 := by omega
  have hpb : (p : Int) ≤ 1152921504606846976 := by omega
  have b1 : i0.bytes * K ≤ 281474976710656 := by rw [hz2]; omega
  have b2 : K ≤ maxLen := by unfold maxLen; omega
  have hKn : K ≤ n := by omega
  have HK := Lib.hid hK
  have HP := Lib.hid (show N = 64 * p + b ∧ b < 64 by omega)
  clear hK hp hb
  have hsz : (Tryd.prog.info? 39).map (·.size) = some 1 := by kernel_rfl
  go_enter Tryd.func27, Tryd.ntmps27
  by_cases hpK : p < K
  · have hpK' : (p : Int) < (K : Int) := by omega
    have hwc : wd (xs.take K) p = wd xs p := by unfold wd; rw [List.getElem?_take_of_lt hpK]
    obtain ⟨v, hv⟩ : ∃ v, wd xs p % 2 ^ b = v := ⟨_, rfl⟩
    have e4 := mask_low (wd xs p) b (h.ws p) HP.out.2
    rw [hv] at e4
    have eK : K = p + 1 := by have := HK.out; omega
    have hcut := has_cut h.len h.ws (by omega) HP.out.1 HP.out.2 hv
    rw [← eK] at hcut
    have HCUT := Lib.hid hcut
    clear hv eK hcut
    go_wp2_with (first
      | (refine wpList_copy_splice rfl _ _ 23 23 rfl 39 Tryd.underlying23 hsz _ _ _ _ _ _ rfl rfl w.heap.size 0 _ 39 hH1 X f1 f2 f3 f4 w.heap.size w hB1 (Nat.le_refl _) ?_; intro w2 hH2 hB2; have hR2 := copy_row hKn h.len b2 HX hH2; have hc2 := hR2.cell hpK; have hc3 := hR2.frozenAt p; rw [hwc] at hc2; have HR2 := Lib.hid hR2; clear hR2 hH2 hH1 f1 f2 f3 f4 HX hB1)
      | (at_make; refine wpList_make_full _ rfl _ _ 23 rfl w.heap.size 39 i0 (.int .u64 0) 1 Tryd.underlying23 hi hz0 hz1 .i64 .i64 _ _ K rfl rfl (by omega) (by omega) b1 b2 (Nat.le_refl _) ?_; intro w1 hmade hgr1; rw [made_words] at hmade; obtain ⟨X, HX, f1, f2, f3, f4, hH1, hB1⟩ := copy_facts hKn h hmade hgr1))
    go_region
    all_goals
      go_wp2_with fail
      have hR3 : Row ((w2.setCell ⟨w.heap.size, p, none⟩ (.int .u64 v)).drew) w.heap.size w.heap.size K K ((xs.take K).set p v) := HR2.out.set p v
      have hB3 : Below w.heap.size w ((w2.setCell ⟨w.heap.size, p, none⟩ (.int .u64 v)).drew) := (hB2.setCell (Nat.le_refl _) _).drew
      generalize (w2.setCell ⟨w.heap.size, p, none⟩ (.int .u64 v)).drew = w3 at *
      clear HR2 hB2 hc2 hc3
      refine (used _ K K ((xs.take K).set p v) w3 b2 (hR3.reads HCUT.out.1)).mono ?_
      rintro e w' ⟨k2, rfl, hk2, rfl⟩
      have hk2K : k2 ≤ K := by have := hk2.1; rw [List.length_set, (h.take hKn).len] at this; exact this
      have hk2i : (k2 : Int) ≤ (K : Int) := by omega
      have HS := Lib.hid (hk2.set HCUT.out.1 HCUT.out.2)
      have HR3 := Lib.hid hR3
      clear hk2 hR3
      go_wp2
      go_ret
      exact GotSet.row HR3.out HCUT.out.1 hk2K (by omega) HS.out hB3
  · have hpK' : ¬ (p : Int) < (K : Int) := by omega
    go_wp2_with (first
      | (refine wpList_copy_splice rfl _ _ 23 23 rfl 39 Tryd.underlying23 hsz _ _ _ _ _ _ rfl rfl w.heap.size 0 _ 39 hH1 X f1 f2 f3 f4 w.heap.size w hB1 (Nat.le_refl _) ?_; intro w2 hH2 hB2; have hR2 := copy_row hKn h.len b2 HX hH2)
      | (at_make; refine wpList_make_full _ rfl _ _ 23 rfl w.heap.size 39 i0 (.int .u64 0) 1 Tryd.underlying23 hi hz0 hz1 .i64 .i64 _ _ K rfl rfl (by omega) (by omega) b1 b2 (Nat.le_refl _) ?_; intro w1 hmade hgr1; rw [made_words] at hmade; obtain ⟨X, HX, f1, f2, f3, f4, hH1, hB1⟩ := copy_facts hKn h hmade hgr1))
    refine (used _ K K (xs.take K) w2 b2 (hR2.reads (h.take hKn).ws)).mono ?_
    rintro e w' ⟨k2, rfl, hk2, rfl⟩
    have hk2K : k2 ≤ K := by have := hk2.1; rw [(h.take hKn).len] at this; exact this
    have hk2i : (k2 : Int) ≤ (K : Int) := by omega
    have hKK : K = n ∧ n ≤ p := by have := HK.out; omega
    have hh : ∀ k, has (xs.take K) k = (has xs k && decide (k < N)) := fun k => by
      rw [hKK.1, List.take_of_length_le (by rw [h.len]; omega)]
      cases e : has xs k
      · rfl
      · have h1 := has_lt e
        rw [h.len] at h1
        have h2 := HP.out
        simp
        omega
    have HS := Lib.hid (hk2.set (h.take hKn).ws hh)
    have HR2 := Lib.hid hR2
    clear hk2 hR2 hH2 hH1 f1 f2 f3 f4 HX hB1 hh hKK
    go_wp2
    go_ret
    exact GotSet.row HR2.out (h.take hKn).ws hk2K (by omega) HS.out hB2
end
end Go.Proofs.YtmmlnfffnfjjnaaDoor.BitsWalks
