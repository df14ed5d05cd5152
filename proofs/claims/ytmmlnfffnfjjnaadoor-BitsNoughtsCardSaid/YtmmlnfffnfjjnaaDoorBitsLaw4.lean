/-
  The walk of the law BitsNoughts. By an AI agent.
-/
import Derived.Test.YtmmlnfffnfjjnaaDoorBitsLaw1
import Derived.Test.YtmmlnfffnfjjnaaDoorBitsMake2
import Derived.Test.YtmmlnfffnfjjnaaDoorBitsCut2
import Derived.Test.YtmmlnfffnfjjnaaDoorZeros
namespace Go.Proofs.YtmmlnfffnfjjnaaDoor.BitsWalks
open Go.RowKit Go.Proofs.YtmmlnfffnfjjnaaDoor.Ints Go.Proofs.YtmmlnfffnfjjnaaDoor.Words Go.Proofs.YtmmlnfffnfjjnaaDoor.RdW

theorem ints_zeros (xs : List Nat) (r : Nat) : ints xs ++ List.replicate r (0 : Int) = ints (xs ++ List.replicate r 0) := by rw [ints_append, ints_replicate]
theorem has_more (xs : List Nat) (r k : Nat) : has (xs ++ List.replicate r 0) k = has xs k := by
  unfold has
  rw [List.getElem?_append]
  split
  · rfl
  · rw [out_getD (xs := xs) (by omega), List.getElem?_replicate]
    split <;> simp
theorem ws_more {xs : List Nat} (h : Ws xs) (r : Nat) : Ws (xs ++ List.replicate r 0) := fun j => by
  rw [List.getElem?_append]
  split
  · exact h j
  · rw [List.getElem?_replicate]
    split <;> simp

/-- What stands at the end of a set that is handed back. -/
def Last (w : World) (D : Option Addr) (n : Nat) : Prop :=
  n = 0 ∨ ∃ b off q x, D = some ⟨b, off, none⟩ ∧ n = q + 1 ∧ (q : Int) ≤ 4096 ∧ w.cell? ⟨b, off + q, none⟩ = some (.int .u64 (x : Nat)) ∧ ¬ x = 0
theorem last_word {w : World} {D : Option Addr} {n : Nat} {us : List Nat} {f : Nat → Bool} (hs : IsSet us f) (hr : RdW w D n us) (hn : n ≤ 4096) : Last w D n := by
  rcases Nat.eq_zero_or_pos n with h | h
  · exact .inl h
  · obtain ⟨b, off, e, hc⟩ := hr.cell h
    have ht := hs.2.1 (by rw [hr.len]; exact h)
    rw [hr.len] at ht
    exact .inr ⟨b, off, n - 1, wd us (n - 1), e, by omega, by omega, hc (n - 1) (by omega), ht⟩
theorem last_later {w w' : World} {D : Option Addr} {n : Nat} (hb : Below w.heap.size w w') (h : Last w D n) : Last w' D n := by
  rcases h with h | ⟨b, off, q, x, h1, h2, h5, h3, h4⟩
  · exact .inl h
  · exact .inr ⟨b, off, q, x, h1, h2, h5, (hb.cell (World.block_lt_of_cell? w _ h3)).trans h3, h4⟩

set_option maxHeartbeats 8000000 in
theorem lawNoughts (A B : Option Addr) (n c m d : Nat) (xs ys : List Nat) (kk k : Int) (w : World) (hkk : 0 ≤ kk ∧ kk ≤ 255) (hk : k ≤ 9223372036854775807) (hnc : n ≤ c) (hcm : c ≤ maxLen) (hmd : m ≤ d) (hdm : d ≤ maxLen)
    (hX : RdW w A n xs) (hY : RdW w B m ys) (hT : Tab w) :
    Calls Tryd.prog 6 #[.slice A n c, .slice B m d, .int .u8 kk, .int .i64 k] w fun e w' => e = .returned (.bool true) ∧ Below w.heap.size w w' := by
  by_cases hbign : 60 < n
  · have hb0 : (60 : Int) < (n : Int) := by omega
    go_enter Tryd.func6, Tryd.ntmps6
    go_wp2_with (go_at_call 8; refine (awake _ hT).mono ?_; rintro e w' ⟨rfl, hb⟩)
    go_ret
    exact ⟨rfl, by assumption⟩
  have hbn : ¬ (60 : Int) < (n : Int) := by omega
  by_cases hbigm : 60 < m
  · have hb0 : (60 : Int) < (m : Int) := by omega
    go_enter Tryd.func6, Tryd.ntmps6
    go_wp2_with (go_at_call 8; refine (awake _ hT).mono ?_; rintro e w' ⟨rfl, hb⟩)
    go_ret
    exact ⟨rfl, by assumption⟩
  have hbm : ¬ (60 : Int) < (m : Int) := by omega
  have hn : n ≤ 1048576 := by omega
  have hm : m ≤ 1048576 := by omega
  have hn63 : n ≤ maxLen := Nat.le_trans hnc hcm
  have hm63 : m ≤ maxLen := Nat.le_trans hmd hdm
  have hwx := hX.ws
  have hwy := hY.ws
  obtain ⟨i0, hi, hz0, hz1, hz2⟩ := info_parts infoW
  obtain ⟨K, rfl⟩ := Int.eq_ofNat_of_zero_le hkk.1
  obtain ⟨r1, hr1⟩ : ∃ r, K % 5 = r := ⟨_, rfl⟩
  obtain ⟨p, hp⟩ : ∃ p, K / 5 = p := ⟨_, rfl⟩
  obtain ⟨r2, hr2⟩ : ∃ r, p % 5 = r := ⟨_, rfl⟩
  have e1 : (K : Int) % 5 = (r1 : Int) := by omega
  have e2 : (K : Int) / 5 = (p : Int) := by omega
  have e3 : (p : Int) % 5 = (r2 : Int) := by omega
  have hK0 : (0 : Int) ≤ (K : Int) := by omega
  have hK1 : (K : Int) ≤ 255 := hkk.2
  have hp0 : (0 : Int) ≤ (p : Int) := by omega
  have hp1 : (p : Int) ≤ 255 := by omega
  have hr1b : r1 < 5 := by omega
  have hr2b : r2 < 5 := by omega
  have q1 : 0 + n ≤ maxLen := by unfold maxLen; omega
  have q2 : (0 + n) * 8 ≤ 140737488355328 := by omega
  have q3 : ∀ o, w.heap.size ≤ (w.alloc o).heap.size := fun o => by simp
  have q4 : n + r1 ≤ maxLen := by unfold maxLen; omega
  have q5 : (n + r1) * 8 ≤ 140737488355328 := by omega
  have q6 : 0 + m ≤ maxLen := by unfold maxLen; omega
  have q7 : (0 + m) * 8 ≤ 140737488355328 := by omega
  have q9 : m + r2 ≤ maxLen := by unfold maxLen; omega
  have q10 : (m + r2) * 8 ≤ 140737488355328 := by omega
  clear hr1 hp hr2 hkk
  go_enter Tryd.func6, Tryd.ntmps6
  go_wp2_with (first
    | (at_builtin; refine wpList_append_zeros rfl (.tmp 31) (.tmp 35) 23 3 rfl .u64 .i64 .i64 w2.heap.size 39 i0 8 Tryd.underlying23 Tryd.underlying3 hi hz0 hz1 hz2 v3 m (ints ys) rfl ho3 r2 (congrArg (Value.int .i64) e3) q9 q10 hb3.size ?_; intro v4 w4 ho4 hg4; have hb4 := hb3.grown hg4 hb3.size (fun k hk => (ho3.lt k hk).1))
    | (at_builtin; refine wpList_append_ints rfl (.tmp 29) (.tmp 30) 23 rfl .u64 w2.heap.size 39 i0 8 Tryd.underlying23 hi hz0 hz1 hz2 (.slice (some ⟨w2.heap.size, 0, none⟩) 0 0) 0 [] rfl (World.ownsRow_made w2 #[] 0 (Nat.le_refl _) (by decide) rfl) _ _ _ (ints ys) rfl (Rd.alloc (hY.below hb2) _) q6 q7 (q8 _) ?_; intro v3 w3 ho3 hg3; simp only [Nat.zero_add, List.nil_append] at ho3; have hb3 : Below w2.heap.size w2 w3 := ((Below.refl _ _).alloc (Nat.le_refl _) _).grown hg3 (by simp) (by rintro k hk; simp [Value.ownBlock] at hk; omega))
    | (at_builtin; refine wpList_append_zeros rfl (.tmp 24) (.tmp 27) 23 3 rfl .u64 .i64 .i64 w.heap.size 39 i0 8 Tryd.underlying23 Tryd.underlying3 hi hz0 hz1 hz2 v1 n (ints xs) rfl ho1 r1 (congrArg (Value.int .i64) e1) q4 q5 hb1.size ?_; intro v2 w2 ho2 hg2; have hb2 := hb1.grown hg2 hb1.size (fun k hk => (ho1.lt k hk).1); have q8 : ∀ o, w2.heap.size ≤ (w2.alloc o).heap.size := fun o => by simp)
    | (at_builtin; refine wpList_append_ints rfl (.tmp 22) (.tmp 23) 23 rfl .u64 w.heap.size 39 i0 8 Tryd.underlying23 hi hz0 hz1 hz2 (.slice (some ⟨w.heap.size, 0, none⟩) 0 0) 0 [] rfl (World.ownsRow_made w #[] 0 (Nat.le_refl _) (by decide) rfl) _ _ _ (ints xs) rfl (Rd.alloc hX _) q1 q2 (q3 _) ?_; intro v1 w1 ho1 hg1; simp only [Nat.zero_add, List.nil_append] at ho1; have hb1 : Below w.heap.size w w1 := ((Below.refl _ _).alloc (Nat.le_refl _) _).grown hg1 (by simp) (by rintro k hk; simp [Value.ownBlock] at hk; omega)))
  rw [ints_zeros] at ho2 ho4
  obtain ⟨C, cC, rfl, hcC, hmC, _⟩ := own_slice ho2
  obtain ⟨E, cE, rfl, hcE, hmE, _⟩ := own_slice ho4
  have hwc : Ws (xs ++ List.replicate r1 0) := ws_more hwx r1
  have hcs := has_more xs r1
  have hds := has_more ys r2
  have hC : RdW w2 C (n + r1) (xs ++ List.replicate r1 0) := RdW.own ho2 hwc
  have hD : RdW w4 E (m + r2) (ys ++ List.replicate r2 0) := RdW.own ho4 (ws_more hwy r2)
  replace hC := hC.below hb4
  have HB : Below w.heap.size w w4 := hb2.trans (hb4.mono hb2.size)
  replace hX := hX.below HB
  replace hY := hY.below HB
  replace hT := hT.later HB
  clear ho1 hg1 hb1 ho2 hg2 hb2 ho3 hg3 hb3 ho4 hg4 hb4 q1 q2 q3 q4 q5 q6 q7 q8 q9 q10
  generalize xs ++ List.replicate r1 0 = cs at *
  generalize ys ++ List.replicate r2 0 = ds at *
  obtain ⟨nC, hnC⟩ : ∃ N, n + r1 = N := ⟨_, rfl⟩
  obtain ⟨nE, hnE⟩ : ∃ N, m + r2 = N := ⟨_, rfl⟩
  rw [hnC] at hC hcC ⊢
  rw [hnE] at hD hcE ⊢
  have hn2 : nC ≤ 1048576 := by omega
  have hn3 : nC ≤ 64 := by omega
  have hm3 : nE ≤ 64 := by omega
  have hm2 : nE ≤ 1048576 := by omega
  have hn63' : nC ≤ maxLen := Nat.le_trans hcC hmC
  have HCS := Lib.hid hcs
  have HDS := Lib.hid hds
  clear hnC hnE hcs hds hi hz0 hz1 hz2 e1 e2 e3
  go_wp2_with fail
  refine (or_ C E nC cC nE cE cs ds w4 hn2 hm2 hC hD).mono ?_
  rintro e w21 ⟨D21, n21, c21, us21, rfl, hs21, hr21, hc21, hm21, hl21, hb⟩
  replace hX := hX.below hb
  replace hY := hY.below hb
  replace hC := hC.below hb
  replace hD := hD.below hb
  replace hT := hT.later hb
  replace HB := HB.trans (hb.mono HB.size)
  clear hb
  have hk21 : n21 ≤ maxLen := Nat.le_trans hc21 hm21
  go_wp2_with fail
  refine (and_ C E nC cC nE cE cs ds w21 hn2 hm2 hC hD).mono ?_
  rintro e w22 ⟨D22, n22, c22, us22, rfl, hs22, hr22, hc22, hm22, hl22, hb⟩
  replace hX := hX.below hb
  replace hY := hY.below hb
  replace hC := hC.below hb
  replace hD := hD.below hb
  replace hr21 := hr21.below hb
  replace hT := hT.later hb
  replace HB := HB.trans (hb.mono HB.size)
  clear hb
  have hk22 : n22 ≤ maxLen := Nat.le_trans hc22 hm22
  go_wp2_with fail
  refine (less_ C E nC cC nE cE cs ds w22 hn2 hm2 hC hD).mono ?_
  rintro e w23 ⟨D23, n23, c23, us23, rfl, hs23, hr23, hc23, hm23, hl23, hb⟩
  replace hX := hX.below hb
  replace hY := hY.below hb
  replace hC := hC.below hb
  replace hD := hD.below hb
  replace hr21 := hr21.below hb
  replace hr22 := hr22.below hb
  replace hT := hT.later hb
  replace HB := HB.trans (hb.mono HB.size)
  clear hb
  have hk23 : n23 ≤ maxLen := Nat.le_trans hc23 hm23
  go_wp2_with fail
  refine (cut_ C nC cC cs w23 k hk hn2 hC).mono ?_
  rintro e w24 ⟨D24, n24, c24, us24, rfl, hs24, hr24, hc24, hm24, hl24, hb⟩
  replace hX := hX.below hb
  replace hY := hY.below hb
  replace hC := hC.below hb
  replace hD := hD.below hb
  replace hr21 := hr21.below hb
  replace hr22 := hr22.below hb
  replace hr23 := hr23.below hb
  replace hT := hT.later hb
  replace HB := HB.trans (hb.mono HB.size)
  clear hb
  have hk24 : n24 ≤ maxLen := Nat.le_trans hc24 hm24
  have L0 := last_word hs21 hr21 (by omega)
  have L1 := last_word hs22 hr22 (by omega)
  have L2 := last_word hs23 hr23 (by omega)
  have L3 := last_word hs24 hr24 (by omega)
  have hb := (Below.refl w24.heap.size w24).alloc (Nat.le_refl _) (.cells #[.slice D21 n21 c21, .slice D22 n22 c22, .slice D23 n23 c23, .slice D24 n24 c24] 23 (0, 0))
  have hcell0 : (w24.alloc (.cells #[.slice D21 n21 c21, .slice D22 n22 c22, .slice D23 n23 c23, .slice D24 n24 c24] 23 (0, 0))).cell? ⟨w24.heap.size, 0, none⟩ = some (.slice D21 n21 c21) := by
    rw [cell_of_row _ w24.heap.size 0 _ _ _ (heap_alloc_new w24 _)]; rfl
  have hcell1 : (w24.alloc (.cells #[.slice D21 n21 c21, .slice D22 n22 c22, .slice D23 n23 c23, .slice D24 n24 c24] 23 (0, 0))).cell? ⟨w24.heap.size, 1, none⟩ = some (.slice D22 n22 c22) := by
    rw [cell_of_row _ w24.heap.size 1 _ _ _ (heap_alloc_new w24 _)]; rfl
  have hcell2 : (w24.alloc (.cells #[.slice D21 n21 c21, .slice D22 n22 c22, .slice D23 n23 c23, .slice D24 n24 c24] 23 (0, 0))).cell? ⟨w24.heap.size, 2, none⟩ = some (.slice D23 n23 c23) := by
    rw [cell_of_row _ w24.heap.size 2 _ _ _ (heap_alloc_new w24 _)]; rfl
  have hcell3 : (w24.alloc (.cells #[.slice D21 n21 c21, .slice D22 n22 c22, .slice D23 n23 c23, .slice D24 n24 c24] 23 (0, 0))).cell? ⟨w24.heap.size, 3, none⟩ = some (.slice D24 n24 c24) := by
    rw [cell_of_row _ w24.heap.size 3 _ _ _ (heap_alloc_new w24 _)]; rfl
  replace L0 := last_later hb L0
  replace L1 := last_later hb L1
  replace L2 := last_later hb L2
  replace L3 := last_later hb L3
  replace hX := hX.below hb
  replace hY := hY.below hb
  replace hC := hC.below hb
  replace hD := hD.below hb
  replace hT := hT.later hb
  replace HB := HB.trans (hb.mono HB.size)
  clear hb hs21 hr21 hc21 hm21 hl21 hk21 hs22 hr22 hc22 hm22 hl22 hk22 hs23 hr23 hc23 hm23 hl23 hk23 hs24 hr24 hc24 hm24 hl24 hk24
  have hX_ := Lib.hid hX
  clear hX
  have hY_ := Lib.hid hY
  clear hY
  have hC_ := Lib.hid hC
  clear hC
  have hD_ := Lib.hid hD
  clear hD
  have hT_ := Lib.hid hT
  clear hT
  have HB_ := Lib.hid HB
  clear HB
  go_wp2
  generalize w24.alloc (.cells #[.slice D21 n21 c21, .slice D22 n22 c22, .slice D23 n23 c23, .slice D24 n24 c24] 23 (0, 0)) = w9 at *
  generalize w24.heap.size = gb at *
  go_loop [51] (fun i => ∃ j : Nat, j ≤ 4 ∧ i = .int .i64 j) (fun i => 4 - (intOf i).toNat)
  case atStart => exact ⟨0, Nat.zero_le _, rfl⟩
  case round =>
    obtain ⟨j, hj, rfl⟩ := hrel
    rcases (show j = 0 ∨ j = 1 ∨ j = 2 ∨ j = 3 ∨ j = 4 by omega) with rfl | rfl | rfl | rfl | rfl
    · rcases L0 with h0 | ⟨b, off, q, x, e1, e2, hq, hc, hx⟩
      · subst h0
        go_wp2
        go_round
        case rel => exact ⟨1, by omega, by go_num⟩
        case measure => simp [intOf]
      · subst e1
        subst e2
        go_wp2
        go_round
        case rel => exact ⟨1, by omega, by go_num⟩
        case measure => simp [intOf]
    · rcases L1 with h0 | ⟨b, off, q, x, e1, e2, hq, hc, hx⟩
      · subst h0
        go_wp2
        go_round
        case rel => exact ⟨2, by omega, by go_num⟩
        case measure => simp [intOf]
      · subst e1
        subst e2
        go_wp2
        go_round
        case rel => exact ⟨2, by omega, by go_num⟩
        case measure => simp [intOf]
    · rcases L2 with h0 | ⟨b, off, q, x, e1, e2, hq, hc, hx⟩
      · subst h0
        go_wp2
        go_round
        case rel => exact ⟨3, by omega, by go_num⟩
        case measure => simp [intOf]
      · subst e1
        subst e2
        go_wp2
        go_round
        case rel => exact ⟨3, by omega, by go_num⟩
        case measure => simp [intOf]
    · rcases L3 with h0 | ⟨b, off, q, x, e1, e2, hq, hc, hx⟩
      · subst h0
        go_wp2
        go_round
        case rel => exact ⟨4, by omega, by go_num⟩
        case measure => simp [intOf]
      · subst e1
        subst e2
        go_wp2
        go_round
        case rel => exact ⟨4, by omega, by go_num⟩
        case measure => simp [intOf]
    have hX := hX_.out
    have hY := hY_.out
    have hC := hC_.out
    have hD := hD_.out
    have hT := hT_.out
    have HB := HB_.out
    have hcs := HCS.out
    have hds := HDS.out
    clear hX_ hY_ hC_ hD_ hT_ HB_ L0 L1 L2 L3 hcell0 hcell1 hcell2 hcell3
    go_wp2_with fail
    refine (or_ A B n c m d xs ys w9 hn hm hX hY).mono ?_
    rintro e w31 ⟨D31, n31, c31, us31, rfl, hs31, hr31, hc31, hm31, hl31, hb⟩
    replace hX := hX.below hb
    replace hY := hY.below hb
    replace hC := hC.below hb
    replace hD := hD.below hb
    replace hT := hT.later hb
    replace HB := HB.trans (hb.mono HB.size)
    clear hb
    have hk31 : n31 ≤ maxLen := Nat.le_trans hc31 hm31
    go_wp2_with fail
    refine (or_ C E nC cC nE cE cs ds w31 hn2 hm2 hC hD).mono ?_
    rintro e w32 ⟨D32, n32, c32, us32, rfl, hs32, hr32, hc32, hm32, hl32, hb⟩
    replace hX := hX.below hb
    replace hY := hY.below hb
    replace hC := hC.below hb
    replace hD := hD.below hb
    replace hr31 := hr31.below hb
    replace hT := hT.later hb
    replace HB := HB.trans (hb.mono HB.size)
    clear hb
    have hk32 : n32 ≤ maxLen := Nat.le_trans hc32 hm32
    go_wp2_with fail
    refine (sameTrue D31 D32 n31 c31 n32 c32 us31 us32 w32 hk31 hr31 hr32 (set_ext hs31 (hs32.congr (fun i => by simp only [hcs, hds])))).mono ?_
    rintro e w33 ⟨rfl, q33, rfl⟩
    have hb := below_q w32 q33
    replace hX := hX.below hb
    replace hY := hY.below hb
    replace hC := hC.below hb
    replace hD := hD.below hb
    replace hr31 := hr31.below hb
    replace hr32 := hr32.below hb
    replace hT := hT.later hb
    replace HB := HB.trans (hb.mono HB.size)
    clear hb
    generalize w32.drewN q33 = w33 at *
    clear hr31
    clear hr32
    go_wp2_with fail
    refine (and_ A B n c m d xs ys w33 hn hm hX hY).mono ?_
    rintro e w34 ⟨D34, n34, c34, us34, rfl, hs34, hr34, hc34, hm34, hl34, hb⟩
    replace hX := hX.below hb
    replace hY := hY.below hb
    replace hC := hC.below hb
    replace hD := hD.below hb
    replace hT := hT.later hb
    replace HB := HB.trans (hb.mono HB.size)
    clear hb
    have hk34 : n34 ≤ maxLen := Nat.le_trans hc34 hm34
    go_wp2_with fail
    refine (and_ C E nC cC nE cE cs ds w34 hn2 hm2 hC hD).mono ?_
    rintro e w35 ⟨D35, n35, c35, us35, rfl, hs35, hr35, hc35, hm35, hl35, hb⟩
    replace hX := hX.below hb
    replace hY := hY.below hb
    replace hC := hC.below hb
    replace hD := hD.below hb
    replace hr34 := hr34.below hb
    replace hT := hT.later hb
    replace HB := HB.trans (hb.mono HB.size)
    clear hb
    have hk35 : n35 ≤ maxLen := Nat.le_trans hc35 hm35
    go_wp2_with fail
    refine (sameTrue D34 D35 n34 c34 n35 c35 us34 us35 w35 hk34 hr34 hr35 (set_ext hs34 (hs35.congr (fun i => by simp only [hcs, hds])))).mono ?_
    rintro e w36 ⟨rfl, q36, rfl⟩
    have hb := below_q w35 q36
    replace hX := hX.below hb
    replace hY := hY.below hb
    replace hC := hC.below hb
    replace hD := hD.below hb
    replace hr34 := hr34.below hb
    replace hr35 := hr35.below hb
    replace hT := hT.later hb
    replace HB := HB.trans (hb.mono HB.size)
    clear hb
    generalize w35.drewN q36 = w36 at *
    clear hr34
    clear hr35
    go_wp2_with fail
    refine (less_ A B n c m d xs ys w36 hn hm hX hY).mono ?_
    rintro e w37 ⟨D37, n37, c37, us37, rfl, hs37, hr37, hc37, hm37, hl37, hb⟩
    replace hX := hX.below hb
    replace hY := hY.below hb
    replace hC := hC.below hb
    replace hD := hD.below hb
    replace hT := hT.later hb
    replace HB := HB.trans (hb.mono HB.size)
    clear hb
    have hk37 : n37 ≤ maxLen := Nat.le_trans hc37 hm37
    go_wp2_with fail
    refine (less_ C E nC cC nE cE cs ds w37 hn2 hm2 hC hD).mono ?_
    rintro e w38 ⟨D38, n38, c38, us38, rfl, hs38, hr38, hc38, hm38, hl38, hb⟩
    replace hX := hX.below hb
    replace hY := hY.below hb
    replace hC := hC.below hb
    replace hD := hD.below hb
    replace hr37 := hr37.below hb
    replace hT := hT.later hb
    replace HB := HB.trans (hb.mono HB.size)
    clear hb
    have hk38 : n38 ≤ maxLen := Nat.le_trans hc38 hm38
    go_wp2_with fail
    refine (sameTrue D37 D38 n37 c37 n38 c38 us37 us38 w38 hk37 hr37 hr38 (set_ext hs37 (hs38.congr (fun i => by simp only [hcs, hds])))).mono ?_
    rintro e w39 ⟨rfl, q39, rfl⟩
    have hb := below_q w38 q39
    replace hX := hX.below hb
    replace hY := hY.below hb
    replace hC := hC.below hb
    replace hD := hD.below hb
    replace hr37 := hr37.below hb
    replace hr38 := hr38.below hb
    replace hT := hT.later hb
    replace HB := HB.trans (hb.mono HB.size)
    clear hb
    generalize w38.drewN q39 = w39 at *
    clear hr37
    clear hr38
    go_wp2_with fail
    refine (cut_ A n c xs w39 k hk hn hX).mono ?_
    rintro e w40 ⟨D40, n40, c40, us40, rfl, hs40, hr40, hc40, hm40, hl40, hb⟩
    replace hX := hX.below hb
    replace hY := hY.below hb
    replace hC := hC.below hb
    replace hD := hD.below hb
    replace hT := hT.later hb
    replace HB := HB.trans (hb.mono HB.size)
    clear hb
    have hk40 : n40 ≤ maxLen := Nat.le_trans hc40 hm40
    go_wp2_with fail
    refine (cut_ C nC cC cs w40 k hk hn2 hC).mono ?_
    rintro e w41 ⟨D41, n41, c41, us41, rfl, hs41, hr41, hc41, hm41, hl41, hb⟩
    replace hX := hX.below hb
    replace hY := hY.below hb
    replace hC := hC.below hb
    replace hD := hD.below hb
    replace hr40 := hr40.below hb
    replace hT := hT.later hb
    replace HB := HB.trans (hb.mono HB.size)
    clear hb
    have hk41 : n41 ≤ maxLen := Nat.le_trans hc41 hm41
    go_wp2_with fail
    refine (sameTrue D40 D41 n40 c40 n41 c41 us40 us41 w41 hk40 hr40 hr41 (set_ext hs40 (hs41.congr (fun i => by simp only [hcs])))).mono ?_
    rintro e w42 ⟨rfl, q42, rfl⟩
    have hb := below_q w41 q42
    replace hX := hX.below hb
    replace hY := hY.below hb
    replace hC := hC.below hb
    replace hD := hD.below hb
    replace hr40 := hr40.below hb
    replace hr41 := hr41.below hb
    replace hT := hT.later hb
    replace HB := HB.trans (hb.mono HB.size)
    clear hb
    generalize w41.drewN q42 = w42 at *
    clear hr40
    clear hr41
    have hsm : same xs cs = true := (same_iff hwx hwc).2 (fun i => (hcs i).symm)
    have hq := same_ A C n c nC cC xs cs w42 hn63 hn63' hX hC
    rw [hsm] at hq
    clear hsm
    go_wp2_with fail
    refine (hq).mono ?_
    rintro e w' ⟨rfl, rfl⟩
    clear hq
    have hsm : within cs xs = true := (within_iff hwc).2 (fun i h => by rw [← hcs]; exact h)
    have hq := within_ C A nC cC n c cs xs w42 hn63' hC hX
    rw [hsm] at hq
    clear hsm
    go_wp2_with fail
    refine (hq).mono ?_
    rintro e w' ⟨rfl, rfl⟩
    clear hq
    go_wp2_with fail
    refine (count_ A n c xs w42 hn hX).mono ?_
    rintro e w' ⟨rfl, rfl⟩
    have hq := count_ C nC cC cs w42 hn2 hC
    rw [total_same hcs] at hq
    go_wp2_with fail
    refine (hq).mono ?_
    rintro e w' ⟨rfl, rfl⟩
    clear hq
    go_wp2_with fail
    refine (awake w42 hT).mono ?_
    rintro e wl ⟨rfl, hb⟩
    replace HB := HB.trans (hb.mono HB.size)
    clear hb hX hY hC hD hT
    go_wp2
    go_ret
    exact ⟨rfl, HB⟩
end Go.Proofs.YtmmlnfffnfjjnaaDoor.BitsWalks
