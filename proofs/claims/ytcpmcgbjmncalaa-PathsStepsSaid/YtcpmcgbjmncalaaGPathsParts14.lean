/-
  The reference's reach, node by node: one of two kids (stage 14). By an AI agent.
-/
import Derived.Test.YtcpmcgbjmncalaaGPathsParts12
namespace Go.Proofs.Ytcpmcgbjmncalaa.Paths
open Go.RowKit Go.Proofs.Ytcpmcgbjmncalaa.Ints Go.Proofs.Ytcpmcgbjmncalaa.Mem Go.Proofs.Ytcpmcgbjmncalaa.Src Go.Proofs.Ytcpmcgbjmncalaa.Tree Go.Proofs.Ytcpmcgbjmncalaa.BitsWalks Go.Proofs.Ytcpmcgbjmncalaa.RdW

/-- One of two tables, filled up to a place. -/
def partA (a b : Tb) (i j : Nat) : Tb := fun p q => (decide (p < i) || (decide (p = i) && decide (q < j))) && altT a b p q
theorem partA_start (a b : Tb) (p q : Nat) : partA a b 0 0 p q = false := by
  unfold partA
  rw [decide_eq_false (Nat.not_lt_zero p), decide_eq_false (Nat.not_lt_zero q), Bool.and_false, Bool.or_false, Bool.false_and]
theorem partA_step (a b : Tb) (i j p q : Nat) : updT (partA a b i j) i j (a i j || b i j) p q = partA a b i (j + 1) p q := by
  unfold updT partA
  by_cases e : p = i ∧ q = j
  · obtain ⟨rfl, rfl⟩ := e
    rw [if_pos ⟨rfl, rfl⟩, decide_eq_true (Nat.lt_succ_self _), decide_eq_true rfl, Bool.and_self, Bool.or_true, Bool.true_and]
    rfl
  · rw [if_neg e, show (decide (p = i) && decide (q < j + 1)) = (decide (p = i) && decide (q < j)) by
      rw [Bool.eq_iff_iff, Bool.and_eq_true, Bool.and_eq_true, decide_eq_true_eq, decide_eq_true_eq, decide_eq_true_eq]
      omega]
theorem partA_row (a b : Tb) (i n p q : Nat) (hq : q < n) : partA a b i n p q = partA a b (i + 1) 0 p q := by
  unfold partA
  rw [show (decide (p < i) || (decide (p = i) && decide (q < n))) = (decide (p < i + 1) || (decide (p = i + 1) && decide (q < 0))) by
    rw [Bool.eq_iff_iff, Bool.or_eq_true, Bool.or_eq_true, Bool.and_eq_true, Bool.and_eq_true, decide_eq_true_eq, decide_eq_true_eq, decide_eq_true_eq, decide_eq_true_eq, decide_eq_true_eq, decide_eq_true_eq]
    omega]
theorem partA_end (a b : Tb) (n p q : Nat) (hp : p < n) : partA a b n 0 p q = altT a b p q := by
  unfold partA
  rw [decide_eq_true hp, Bool.true_or, Bool.true_and]
set_option maxHeartbeats 8000000 in
set_option maxRecDepth 100000 in
theorem reach_alt (A T V : Option Addr) (n c nt ct nv cv at_ : Nat) (l : List Nd) (ts : List Int) (vs : Nat → List Nat) (w : World) (h : RIn w A n l T nt ts V nv vs) (hat : at_ < n) (hk : kindN l at_ = 20) (f : Nat)
    (ih : ∀ y, y < at_ → ∀ W, Below w.heap.size w W → Calls Try.prog 35 #[.slice A n c, .int .i64 (y : Nat), .slice T nt ct, .slice V nv cv] W (GotTab W nv (reachT (rxOf l ts vs) nv f y))) :
    Calls Try.prog 35 #[.slice A n c, .int .i64 (at_ : Nat), .slice T nt ct, .slice V nv cv] w (GotTab w nv (reachT (rxOf l ts vs) nv (f + 1) at_)) := by
  have q63 : maxLen = 9223372036854775807 := rfl
  have hs := h.small
  have hnv := h.nvs
  have HSQ := Lib.hid (refSquare nv w hnv)
  obtain ⟨b, off, nd, Kb, ko, cK, rfl, hkd, hcK, hlt, HX⟩ := node_kids h hat (m := 2) (by rw [hk]; rfl) (by decide)
  have HX := Lib.hid HX
  have HI0 := Lib.hid (ih (kidN l at_ 0) (hlt 0 (by decide)))
  have HI1 := Lib.hid (ih (kidN l at_ 1) (hlt 1 (by decide)))
  have HE := Lib.hid (show altT (reachT (rxOf l ts vs) nv f (kidN l at_ 0)) (reachT (rxOf l ts vs) nv f (kidN l at_ 1)) = reachT (rxOf l ts vs) nv (f + 1) at_ from by
    conv => rhs; unfold reachT
    have e : (rxOf l ts vs).kd at_ = 20 := hk
    rw [if_neg (by rw [e]; decide), if_neg (by rw [e]; decide), if_pos e]
    rfl)
  rw [hkd, hk] at HX
  obtain ⟨t0, ht0⟩ : ∃ t, reachT (rxOf l ts vs) nv f (kidN l at_ 0) = t := ⟨_, rfl⟩
  obtain ⟨t1, ht1⟩ : ∃ t, reachT (rxOf l ts vs) nv f (kidN l at_ 1) = t := ⟨_, rfl⟩
  have hl0 := hlt 0 (by decide)
  have hl1 := hlt 1 (by decide)
  rw [ht0] at HE HI0
  rw [ht1] at HE HI1
  have HK := Lib.hid (fun W (hb : Below w.heap.size w W) => And.intro ((HX.out W hb).2.2.2.2.2 0 (by decide)) ((HX.out W hb).2.2.2.2.2 1 (by decide)))
  obtain ⟨k0, hk0⟩ : ∃ t, kidN l at_ 0 = t := ⟨_, rfl⟩
  obtain ⟨k1, hk1⟩ : ∃ t, kidN l at_ 1 = t := ⟨_, rfl⟩
  rw [hk0] at HI0 HK hl0
  rw [hk1] at HI1 HK hl1
  clear h hlt ih hkd ht0 ht1 hk0 hk1
  go_enter Try.func35, Try.ntmps35
  go_wp2_with fail
  refine HSQ.out.mono ?_
  rintro e w1 ⟨B, R, rfl, ht1, hB1⟩
  have HT1 := Lib.hid ht1
  clear ht1
  obtain ⟨x0, x1, x2, x3, x4, -⟩ := HX.out _ hB1
  have HB1 := Lib.hid hB1
  clear hB1 HX HSQ
  go_wp2_with fail
  obtain ⟨V1, hV1⟩ : ∃ V1, w1.alloc (.cells #[.int .i64 20, .string nd.name, .int .i64 nd.lo, .int .i64 nd.hi, .slice (some ⟨Kb, ko, none⟩) 2 cK] 42) = V1 := ⟨_, rfl⟩
  have HBW := Lib.hid (show Below w1.heap.size w1 V1 by rw [← hV1]; exact (Below.refl _ w1).alloc (Nat.le_refl _) _)
  have HBV := Lib.hid (show Below w.heap.size w V1 by rw [← hV1]; exact HB1.out.alloc HB1.out.size _)
  have hblk : V1.heap[w1.heap.size]? = some (.cells #[.int .i64 20, .string nd.name, .int .i64 nd.lo, .int .i64 nd.hi, .slice (some ⟨Kb, ko, none⟩) 2 cK] 42 (0, 0)) := by rw [← hV1]; exact heap_alloc_new w1 _
  have c0 : V1.cell? ⟨w1.heap.size, 4, none⟩ = some (.slice (some ⟨Kb, ko, none⟩) 2 cK) := by
    rw [cell_of_row V1 w1.heap.size 4 _ _ _ hblk]
    rfl
  rw [hV1]
  clear hV1 hblk x0 x1 x2 x3 x4
  obtain ⟨c1, c2⟩ := HK.out V1 HBV.out
  rw [Nat.add_zero] at c1
  refine wp_region_held_drew (S := fun W => W.cell? ⟨w1.heap.size, 4, none⟩ = some (.slice (some ⟨Kb, ko, none⟩) 2 cK) ∧ W.cell? ⟨Kb, ko, none⟩ = some (.int .i64 (k0 : Nat)) ∧ W.cell? ⟨Kb, ko + 1, none⟩ = some (.int .i64 (k1 : Nat))) (by kernel_rfl) ⟨c0, c1, c2⟩ (fun hHeld => ?_)
  have HI0 := Lib.hid (HI0.out V1.drew HBV.out.drew)
  refine wpAnyH_take (i := 0) (oi := ?tko1) (v := ?tkv1) ?tkh1 (by kernel_rfl) (by kernel_rfl) (by kernel_rfl) ?tkq1 ?tky1 hHeld ?tkr1
  case tkh1 => (simp only [List.getElem?_toArray, List.getElem?_cons_zero]; rfl)
  case tkq1 => exact fun _ _ _ h => h
  case tky1 => exact Or.inl ⟨by rfl, by intro wSw hSw; (try dsimp only at hSw); go_simp; try with_reducible rfl⟩
  try simp only [Act.put, List.setIfInBounds_toArray, List.set_cons_zero, List.set_cons_succ]
  refine wpAnyH_take (i := 1) (oi := ?tko2) (v := ?tkv2) ?tkh2 (by kernel_rfl) (by kernel_rfl) (by kernel_rfl) ?tkq2 ?tky2 hHeld ?tkr2
  case tkh2 => (simp only [List.getElem?_toArray, List.getElem?_cons_succ, List.getElem?_cons_zero]; rfl)
  case tkq2 => exact fun _ _ _ h => h
  case tky2 => exact Or.inl ⟨by rfl, by intro wSw hSw; (try dsimp only at hSw); go_simp; try with_reducible rfl⟩
  try simp only [Act.put, List.setIfInBounds_toArray, List.set_cons_zero, List.set_cons_succ]
  refine wpAnyH_take (i := 2) (oi := ?tko3) (v := ?tkv3) ?tkh3 (by kernel_rfl) (by kernel_rfl) (by kernel_rfl) ?tkq3 ?tky3 hHeld ?tkr3
  case tkh3 => (simp only [List.getElem?_toArray, List.getElem?_cons_succ, List.getElem?_cons_zero]; rfl)
  case tkq3 => exact fun _ _ _ h => h
  case tky3 => exact Or.inl ⟨by rfl, by intro wSw hSw; (try dsimp only at hSw); go_simp; try with_reducible rfl⟩
  try simp only [Act.put, List.setIfInBounds_toArray, List.set_cons_zero, List.set_cons_succ]
  refine wpAnyH_take (i := 3) (oi := ?tko4) (v := ?tkv4) ?tkh4 (by kernel_rfl) (by kernel_rfl) (by kernel_rfl) ?tkq4 ?tky4 hHeld ?tkr4
  case tkh4 => (simp only [List.getElem?_toArray, List.getElem?_cons_succ, List.getElem?_cons_zero]; rfl)
  case tkq4 => exact fun _ _ _ h => h
  case tky4 => exact Or.inl ⟨by rfl, by intro wSw hSw; (try dsimp only at hSw); go_simp; try with_reducible rfl⟩
  try simp only [Act.put, List.setIfInBounds_toArray, List.set_cons_zero, List.set_cons_succ]
  refine wpAnyH_take (i := 4) (oi := ?tko5) (v := ?tkv5) ?tkh5 (by kernel_rfl) (by kernel_rfl) (by kernel_rfl) ?tkq5 ?tky5 hHeld ?tkr5
  case tkh5 => (simp only [List.getElem?_toArray, List.getElem?_cons_succ, List.getElem?_cons_zero]; rfl)
  case tkq5 => exact fun _ _ _ h => h
  case tky5 => exact Or.inl ⟨by rfl, by intro wSw hSw; (try dsimp only at hSw); go_simp; try with_reducible rfl⟩
  try simp only [Act.put, List.setIfInBounds_toArray, List.set_cons_zero, List.set_cons_succ]
  refine wpAnyH_take (i := 5) (oi := ?tko6) (v := ?tkv6) ?tkh6 (by kernel_rfl) (by kernel_rfl) (by kernel_rfl) ?tkq6 ?tky6 hHeld ?tkr6
  case tkh6 => (simp only [List.getElem?_toArray, List.getElem?_cons_succ, List.getElem?_cons_zero]; rfl)
  case tkq6 => exact fun _ _ _ h => h
  case tky6 => exact Or.inl ⟨by rfl, by intro wSw hSw; (try dsimp only at hSw); go_simp; try with_reducible rfl⟩
  try simp only [Act.put, List.setIfInBounds_toArray, List.set_cons_zero, List.set_cons_succ]
  refine wpAnyH_take (i := 6) (oi := ?tko7) (v := ?tkv7) ?tkh7 (by kernel_rfl) (by kernel_rfl) (by kernel_rfl) ?tkq7 ?tky7 hHeld ?tkr7
  case tkh7 => (simp only [List.getElem?_toArray, List.getElem?_cons_succ, List.getElem?_cons_zero]; rfl)
  case tkq7 => exact fun _ _ _ h => h
  case tky7 => exact Or.inl ⟨by rfl, by intro wSw hSw; (try dsimp only at hSw); go_simp; try with_reducible rfl⟩
  try simp only [Act.put, List.setIfInBounds_toArray, List.set_cons_zero, List.set_cons_succ]
  refine wpAnyH_take (i := 8) (oi := ?tko8) (v := ?tkv8) ?tkh8 (by kernel_rfl) (by kernel_rfl) (by kernel_rfl) ?tkq8 ?tky8 hHeld ?tkr8
  case tkh8 => (simp only [List.getElem?_toArray, List.getElem?_cons_succ, List.getElem?_cons_zero]; rfl)
  case tkq8 => exact fun _ _ _ h => h
  case tky8 => exact Or.inl ⟨by rfl, by intro wSw hSw; (try dsimp only at hSw); go_simp; try with_reducible rfl⟩
  try simp only [Act.put, List.setIfInBounds_toArray, List.set_cons_zero, List.set_cons_succ]
  refine wpAnyH_take (i := 9) (oi := ?tko9) (v := ?tkv9) ?tkh9 (by kernel_rfl) (by kernel_rfl) (by kernel_rfl) ?tkq9 ?tky9 hHeld ?tkr9
  case tkh9 => (simp only [List.getElem?_toArray, List.getElem?_cons_succ, List.getElem?_cons_zero]; rfl)
  case tkq9 => exact fun _ _ _ h => h
  case tky9 => exact Or.inl ⟨by rfl, by intro wSw hSw; (try dsimp only at hSw); go_simp; try with_reducible rfl⟩
  try simp only [Act.put, List.setIfInBounds_toArray, List.set_cons_zero, List.set_cons_succ]
  refine wpAnyH_take (i := 10) (oi := ?tko10) (v := ?tkv10) ?tkh10 (by kernel_rfl) (by kernel_rfl) (by kernel_rfl) ?tkq10 ?tky10 hHeld ?tkr10
  case tkh10 => (simp only [List.getElem?_toArray, List.getElem?_cons_succ, List.getElem?_cons_zero]; rfl)
  case tkq10 => exact fun _ _ _ h => h
  case tky10 => exact Or.inl ⟨by rfl, by intro wSw hSw; (try dsimp only at hSw); go_simp; try with_reducible rfl⟩
  try simp only [Act.put, List.setIfInBounds_toArray, List.set_cons_zero, List.set_cons_succ]
  refine wpAnyH_take (i := 11) (oi := ?tko11) (v := ?tkv11) ?tkh11 (by kernel_rfl) (by kernel_rfl) (by kernel_rfl) ?tkq11 ?tky11 hHeld ?tkr11
  case tkh11 => (simp only [List.getElem?_toArray, List.getElem?_cons_succ, List.getElem?_cons_zero]; rfl)
  case tkq11 => exact fun _ _ _ h => h
  case tky11 => exact Or.inl ⟨by rfl, by intro wSw hSw; (try dsimp only at hSw); go_simp; try with_reducible rfl⟩
  try simp only [Act.put, List.setIfInBounds_toArray, List.set_cons_zero, List.set_cons_succ]
  refine wpAnyH_take (i := 12) (oi := ?tko12) (v := ?tkv12) ?tkh12 (by kernel_rfl) (by kernel_rfl) (by kernel_rfl) ?tkq12 ?tky12 hHeld ?tkr12
  case tkh12 => (simp only [List.getElem?_toArray, List.getElem?_cons_succ, List.getElem?_cons_zero]; rfl)
  case tkq12 => exact fun _ _ _ h => h
  case tky12 => exact Or.inl ⟨by rfl, by intro wSw hSw; (try dsimp only at hSw); go_simp; try with_reducible rfl⟩
  try simp only [Act.put, List.setIfInBounds_toArray, List.set_cons_zero, List.set_cons_succ]
  refine wpAnyH_take (i := 13) (oi := ?tko13) (v := ?tkv13) ?tkh13 (by kernel_rfl) (by kernel_rfl) (by kernel_rfl) ?tkq13 ?tky13 hHeld ?tkr13
  case tkh13 => (simp only [List.getElem?_toArray, List.getElem?_cons_succ, List.getElem?_cons_zero]; rfl)
  case tkq13 => exact fun _ _ _ h => h
  case tky13 => exact Or.inl ⟨by rfl, by intro wSw hSw; (try dsimp only at hSw); go_simp; try with_reducible rfl⟩
  try simp only [Act.put, List.setIfInBounds_toArray, List.set_cons_zero, List.set_cons_succ]
  refine wpAnyH_take (i := 14) (oi := ?tko14) (v := ?tkv14) ?tkh14 (by kernel_rfl) (by kernel_rfl) (by kernel_rfl) ?tkq14 ?tky14 hHeld ?tkr14
  case tkh14 => (simp only [List.getElem?_toArray, List.getElem?_cons_succ, List.getElem?_cons_zero]; rfl)
  case tkq14 => exact fun _ _ _ h => h
  case tky14 => exact Or.inl ⟨by rfl, by intro wSw hSw; (try dsimp only at hSw); go_simp; try with_reducible rfl⟩
  try simp only [Act.put, List.setIfInBounds_toArray, List.set_cons_zero, List.set_cons_succ]
  refine wpAnyH_ready (rs := [7]) (by kernel_rfl) (by simp) ?_
  refine AllReadyH.cons (o := ?tko15) ?tkh15 (fun Kt15 hKt15 => ?_) AllReadyH.nil
  case tkh15 => (simp only [List.getElem?_toArray, List.getElem?_cons_succ, List.getElem?_cons_zero]; rfl)
  go_simp
  (go_at_call 35; refine HI0.out.mono ?_; rintro e w2 ⟨B2, R2, rfl, ht2, hB2⟩; have HB2 := Lib.hid hB2; have HT2 := Lib.hid ht2; clear hB2 ht2; have HI1 := Lib.hid (HI1.out w2 (HBV.out.drew.trans (HB2.out.mono HBV.out.size))))
  refine hKt15.out _ _ ?_ (fun hHt15 => ?_)
  · (exact ⟨Mem.below_cell HB2.out c0, Mem.below_cell HB2.out c1, Mem.below_cell HB2.out c2⟩)
  clear hKt15 Kt15 hHeld
  have hHeld := hHt15
  clear hHt15
  try simp only [Act.put, List.setIfInBounds_toArray, List.set_cons_zero, List.set_cons_succ]
  refine wpAnyH_ready (rs := [15]) (by kernel_rfl) (by simp) ?_
  refine AllReadyH.cons (o := ?tko16) ?tkh16 (fun Kt16 hKt16 => ?_) AllReadyH.nil
  case tkh16 => (simp only [List.getElem?_toArray, List.getElem?_cons_succ, List.getElem?_cons_zero]; rfl)
  go_simp
  (go_at_call 35; refine HI1.out.mono ?_; rintro e w3 ⟨B3, R3, rfl, ht3, hB3⟩; have HB3 := Lib.hid hB3; have HT3 := Lib.hid ht3; clear hB3 ht3)
  refine hKt16.out _ _ ?_ (fun hHt16 => ?_)
  · (exact ⟨Mem.below_cell HB3.out (Mem.below_cell HB2.out c0), Mem.below_cell HB3.out (Mem.below_cell HB2.out c1), Mem.below_cell HB3.out (Mem.below_cell HB2.out c2)⟩)
  clear hKt16 Kt16 hHeld
  have hHeld := hHt16
  clear hHt16
  try simp only [Act.put, List.setIfInBounds_toArray, List.set_cons_zero, List.set_cons_succ]
  refine wpAnyH_take (i := 16) (oi := ?tko17) (v := ?tkv17) ?tkh17 (by kernel_rfl) (by kernel_rfl) (by kernel_rfl) ?tkq17 ?tky17 hHeld ?tkr17
  case tkh17 => (simp only [List.getElem?_toArray, List.getElem?_cons_succ, List.getElem?_cons_zero]; rfl)
  case tkq17 => exact fun _ _ _ h => h
  case tky17 => exact Or.inl ⟨by rfl, by intro wSw hSw; (try dsimp only at hSw); go_simp; try with_reducible rfl⟩
  try simp only [Act.put, List.setIfInBounds_toArray, List.set_cons_zero, List.set_cons_succ]
  refine wpAnyH_take (i := 17) (oi := ?tko18) (v := ?tkv18) ?tkh18 (by kernel_rfl) (by kernel_rfl) (by kernel_rfl) ?tkq18 ?tky18 hHeld ?tkr18
  case tkh18 => (simp only [List.getElem?_toArray, List.getElem?_cons_succ, List.getElem?_cons_zero]; rfl)
  case tkq18 => exact fun _ _ _ h => h
  case tky18 => exact Or.inl ⟨by rfl, by intro wSw hSw; (try dsimp only at hSw); go_simp; try with_reducible rfl⟩
  try simp only [Act.put, List.setIfInBounds_toArray, List.set_cons_zero, List.set_cons_succ]
  refine wpAnyH_done (by kernel_rfl) ?_ _
  have hs0 : w.heap.size ≤ w1.heap.size := HB1.out.size
  have hs1 : w1.heap.size ≤ V1.heap.size := HBW.out.size
  have hs2 : V1.heap.size ≤ w2.heap.size := HB2.out.size
  have hs3 : w2.heap.size ≤ w3.heap.size := HB3.out.size
  have HBE := Lib.hid ((HBV.out.drew.trans (HB2.out.mono (Nat.le_trans hs0 hs1))).trans (HB3.out.mono (Nat.le_trans (Nat.le_trans hs0 hs1) hs2)))
  have HTM := Lib.hid (((HT1.out.below (HBW.out.drew)).below HB2.out).below HB3.out)
  have HTA := Lib.hid ((HT2.out.below HB3.out).down (lo' := w1.heap.size) hs1)
  have HTB := Lib.hid (HT3.out.down (lo' := w1.heap.size) (Nat.le_trans hs1 hs2))
  have HR1 := Lib.hid (fun i (hi : i < nv) => (And.intro ((HT1.out.row i hi).lt (R i) rfl).1 ((HT1.out.row i hi).lt (R i) rfl).2))
  clear hHeld c0 c1 c2 hs0 hs1 hs2 hs3 HT1 HT2 HT3 HB1 HB2 HB3 HBV HBW HI0 HI1 HK hl0 hl1 hcK
  go_wp2_with fail
  go_loopw [85] (fun v wr => ∃ i : Nat, v = .int .i64 (i : Nat) ∧ i ≤ nv ∧ Tab wr w.heap.size B R nv (partA t0 t1 i 0) ∧ Below w.heap.size w wr ∧ Hid (∀ g, w1.heap.size ≤ g → wr.heap[g]? = w3.heap[g]?)) (fun v _ => nv - (intOf v).toNat)
  case atStart => exact ⟨0, rfl, Nat.zero_le _, HTM.out.ext (fun i j _ _ => (partA_start t0 t1 i j).symm), HBE.out, Lib.hid (fun g _ => rfl)⟩
  case round =>
    obtain ⟨i, rfl, hin, ht, hB, hkeep⟩ := hrel
    have HTi := Lib.hid ht
    have HBi := Lib.hid hB
    have HKi := Lib.hid hkeep.out
    clear ht hB hkeep
    by_cases hlt : i < nv
    · obtain ⟨wo, hwo⟩ : ∃ wo, wr = wo := ⟨_, rfl⟩
      subst hwo
      go_wp2_with fail
      go_loopw [89] (fun v wr => ∃ j : Nat, v = .int .i64 (j : Nat) ∧ j ≤ nv ∧ Tab wr w.heap.size B R nv (partA t0 t1 i j) ∧ Below w.heap.size w wr ∧ Hid (∀ g, w1.heap.size ≤ g → wr.heap[g]? = w3.heap[g]?)) (fun v _ => nv - (intOf v).toNat)
      case atStart => exact ⟨0, rfl, Nat.zero_le _, HTi.out, HBi.out, Lib.hid HKi.out⟩
      case round =>
        obtain ⟨j, rfl, hjn, ht, hB, hkeep⟩ := hrel
        have HTj := Lib.hid ht
        have HBj := Lib.hid hB
        have HKj := Lib.hid hkeep.out
        by_cases hlj : j < nv
        · have hta := HTA.out.kept (hkeep.out _ (HTA.out.out.lt B2 rfl).1) (fun a ha => hkeep.out _ ((HTA.out.row a ha).lt (R2 a) rfl).1)
          have htb := HTB.out.kept (hkeep.out _ (HTB.out.out.lt B3 rfl).1) (fun a ha => hkeep.out _ ((HTB.out.row a ha).lt (R3 a) rfl).1)
          have x1 := hta.outer hlt
          have x2 := hta.inner hlt hlj
          have y1 := htb.outer hlt
          have y2 := htb.inner hlt hlj
          have z1 := ht.outer hlt
          have z2 := ht.inner hlt hlj
          have z3 := own_fz (ht.row i hlt) j
          obtain ⟨va, hva⟩ : ∃ v, t0 i j = v := ⟨_, rfl⟩
          obtain ⟨vb, hvb⟩ : ∃ v, t1 i j = v := ⟨_, rfl⟩
          rw [hva] at x2
          rw [hvb] at y2
          have HN := Lib.hid (show ∀ x, x = (va || vb) → Tab (wr.setCell ⟨R i, j, none⟩ (.bool x)) w.heap.size B R nv (partA t0 t1 i (j + 1)) from fun x hx => (HTj.out.set hlt hlj x).ext (fun p q _ _ => by rw [hx, ← hva, ← hvb]; exact partA_step t0 t1 i j p q))
          have HBN := Lib.hid (fun x : Bool => hB.setCell (p := ⟨R i, j, none⟩) (HR1.out i hlt).1 (.bool x))
          have HKN := Lib.hid (fun (x : Bool) g (hg : w1.heap.size ≤ g) => (Below.heap_setCell wr ⟨R i, j, none⟩ (.bool x) g (by have := (HR1.out i hlt).2; show g ≠ R i; omega)).trans (hkeep.out g hg))
          clear ht hB hkeep hta htb hva hvb
          go_wp2_with fail
          cases va
          · cases vb
            · refine Late.drew [22] (S := fun W => W.cell? ⟨B, i, none⟩ = some (.slice (some ⟨R i, 0, none⟩) nv nv) ∧ W.cell? ⟨B2, i, none⟩ = some (.slice (some ⟨R2 i, 0, none⟩) nv nv) ∧ W.cell? ⟨R2 i, j, none⟩ = some (.bool false) ∧ W.cell? ⟨B3, i, none⟩ = some (.slice (some ⟨R3 i, 0, none⟩) nv nv) ∧ W.cell? ⟨R3 i, j, none⟩ = some (.bool false)) (by kernel_rfl) ⟨z1, x1, x2, y1, y2⟩ (fun hHeld => ?_)
              refine Late.take (i := 0) (oi := ?tko19) (v := ?tkv19) ?tkh19 (by kernel_rfl) (by kernel_rfl) (by kernel_rfl) (by kernel_rfl) ?tkq19 ?tky19 hHeld ?tkr19
              case tkh19 => (simp only [List.getElem?_toArray, List.getElem?_cons_zero]; rfl)
              case tkq19 => exact fun _ _ _ h => h
              case tky19 => exact Or.inl ⟨by rfl, by intro wSw hSw; (try dsimp only at hSw); go_simp; try with_reducible rfl⟩
              try simp only [Act.put, List.setIfInBounds_toArray, List.set_cons_zero, List.set_cons_succ]
              refine Late.take (i := 1) (oi := ?tko20) (v := ?tkv20) ?tkh20 (by kernel_rfl) (by kernel_rfl) (by kernel_rfl) (by kernel_rfl) ?tkq20 ?tky20 hHeld ?tkr20
              case tkh20 => (simp only [List.getElem?_toArray, List.getElem?_cons_succ, List.getElem?_cons_zero]; rfl)
              case tkq20 => exact fun _ _ _ h => h
              case tky20 => exact Or.inl ⟨by rfl, by intro wSw hSw; (try dsimp only at hSw); go_simp; try with_reducible rfl⟩
              try simp only [Act.put, List.setIfInBounds_toArray, List.set_cons_zero, List.set_cons_succ]
              refine Late.take (i := 2) (oi := ?tko21) (v := ?tkv21) ?tkh21 (by kernel_rfl) (by kernel_rfl) (by kernel_rfl) (by kernel_rfl) ?tkq21 ?tky21 hHeld ?tkr21
              case tkh21 => (simp only [List.getElem?_toArray, List.getElem?_cons_succ, List.getElem?_cons_zero]; rfl)
              case tkq21 => exact fun _ _ _ h => h
              case tky21 => exact Or.inl ⟨by rfl, by intro wSw hSw; (try dsimp only at hSw); go_simp; try with_reducible rfl⟩
              try simp only [Act.put, List.setIfInBounds_toArray, List.set_cons_zero, List.set_cons_succ]
              refine Late.take (i := 3) (oi := ?tko22) (v := ?tkv22) ?tkh22 (by kernel_rfl) (by kernel_rfl) (by kernel_rfl) (by kernel_rfl) ?tkq22 ?tky22 hHeld ?tkr22
              case tkh22 => (simp only [List.getElem?_toArray, List.getElem?_cons_succ, List.getElem?_cons_zero]; rfl)
              case tkq22 => exact fun _ _ _ h => h
              case tky22 => exact Or.inl ⟨by rfl, by intro wSw hSw; (try dsimp only at hSw); go_simp; try with_reducible rfl⟩
              try simp only [Act.put, List.setIfInBounds_toArray, List.set_cons_zero, List.set_cons_succ]
              refine Late.take (i := 4) (oi := ?tko23) (v := ?tkv23) ?tkh23 (by kernel_rfl) (by kernel_rfl) (by kernel_rfl) (by kernel_rfl) ?tkq23 ?tky23 hHeld ?tkr23
              case tkh23 => (simp only [List.getElem?_toArray, List.getElem?_cons_succ, List.getElem?_cons_zero]; rfl)
              case tkq23 => exact fun _ _ _ h => h
              case tky23 => exact Or.inl ⟨by rfl, by intro wSw hSw; (try dsimp only at hSw); go_simp; try with_reducible rfl⟩
              try simp only [Act.put, List.setIfInBounds_toArray, List.set_cons_zero, List.set_cons_succ]
              refine Late.take (i := 5) (oi := ?tko24) (v := ?tkv24) ?tkh24 (by kernel_rfl) (by kernel_rfl) (by kernel_rfl) (by kernel_rfl) ?tkq24 ?tky24 hHeld ?tkr24
              case tkh24 => (simp only [List.getElem?_toArray, List.getElem?_cons_succ, List.getElem?_cons_zero]; rfl)
              case tkq24 => exact fun _ _ _ h => h
              case tky24 => exact Or.inl ⟨by rfl, by intro wSw hSw; (try dsimp only at hSw); go_simp; try with_reducible rfl⟩
              try simp only [Act.put, List.setIfInBounds_toArray, List.set_cons_zero, List.set_cons_succ]
              refine Late.take (i := 6) (oi := ?tko25) (v := ?tkv25) ?tkh25 (by kernel_rfl) (by kernel_rfl) (by kernel_rfl) (by kernel_rfl) ?tkq25 ?tky25 hHeld ?tkr25
              case tkh25 => (simp only [List.getElem?_toArray, List.getElem?_cons_succ, List.getElem?_cons_zero]; rfl)
              case tkq25 => exact fun _ _ _ h => h
              case tky25 => exact Or.inl ⟨by rfl, by intro wSw hSw; (try dsimp only at hSw); go_simp; try with_reducible rfl⟩
              try simp only [Act.put, List.setIfInBounds_toArray, List.set_cons_zero, List.set_cons_succ]
              refine Late.take (i := 7) (oi := ?tko26) (v := ?tkv26) ?tkh26 (by kernel_rfl) (by kernel_rfl) (by kernel_rfl) (by kernel_rfl) ?tkq26 ?tky26 hHeld ?tkr26
              case tkh26 => (simp only [List.getElem?_toArray, List.getElem?_cons_succ, List.getElem?_cons_zero]; rfl)
              case tkq26 => exact fun _ _ _ h => h
              case tky26 => exact Or.inl ⟨by rfl, by intro wSw hSw; (try dsimp only at hSw); go_simp; try with_reducible rfl⟩
              try simp only [Act.put, List.setIfInBounds_toArray, List.set_cons_zero, List.set_cons_succ]
              refine Late.take (i := 8) (oi := ?tko27) (v := ?tkv27) ?tkh27 (by kernel_rfl) (by kernel_rfl) (by kernel_rfl) (by kernel_rfl) ?tkq27 ?tky27 hHeld ?tkr27
              case tkh27 => (simp only [List.getElem?_toArray, List.getElem?_cons_succ, List.getElem?_cons_zero]; rfl)
              case tkq27 => exact fun _ _ _ h => h
              case tky27 => exact Or.inl ⟨by rfl, by intro wSw hSw; (try dsimp only at hSw); go_simp; try with_reducible rfl⟩
              try simp only [Act.put, List.setIfInBounds_toArray, List.set_cons_zero, List.set_cons_succ]
              refine Late.take (i := 9) (oi := ?tko28) (v := ?tkv28) ?tkh28 (by kernel_rfl) (by kernel_rfl) (by kernel_rfl) (by kernel_rfl) ?tkq28 ?tky28 hHeld ?tkr28
              case tkh28 => (simp only [List.getElem?_toArray, List.getElem?_cons_succ, List.getElem?_cons_zero]; rfl)
              case tkq28 => exact fun _ _ _ h => h
              case tky28 => exact Or.inl ⟨by rfl, by intro wSw hSw; (try dsimp only at hSw); go_simp; try with_reducible rfl⟩
              try simp only [Act.put, List.setIfInBounds_toArray, List.set_cons_zero, List.set_cons_succ]
              refine Late.take (i := 10) (oi := ?tko29) (v := ?tkv29) ?tkh29 (by kernel_rfl) (by kernel_rfl) (by kernel_rfl) (by kernel_rfl) ?tkq29 ?tky29 hHeld ?tkr29
              case tkh29 => (simp only [List.getElem?_toArray, List.getElem?_cons_succ, List.getElem?_cons_zero]; rfl)
              case tkq29 => exact fun _ _ _ h => h
              case tky29 => exact Or.inl ⟨by rfl, by intro wSw hSw; (try dsimp only at hSw); go_simp; try with_reducible rfl⟩
              try simp only [Act.put, List.setIfInBounds_toArray, List.set_cons_zero, List.set_cons_succ]
              refine Late.take (i := 11) (oi := ?tko30) (v := ?tkv30) ?tkh30 (by kernel_rfl) (by kernel_rfl) (by kernel_rfl) (by kernel_rfl) ?tkq30 ?tky30 hHeld ?tkr30
              case tkh30 => (simp only [List.getElem?_toArray, List.getElem?_cons_succ, List.getElem?_cons_zero]; rfl)
              case tkq30 => exact fun _ _ _ h => h
              case tky30 => exact Or.inl ⟨by rfl, by intro wSw hSw; (try dsimp only at hSw); go_simp; try with_reducible rfl⟩
              try simp only [Act.put, List.setIfInBounds_toArray, List.set_cons_zero, List.set_cons_succ]
              refine Late.take (i := 12) (oi := ?tko31) (v := ?tkv31) ?tkh31 (by kernel_rfl) (by kernel_rfl) (by kernel_rfl) (by kernel_rfl) ?tkq31 ?tky31 hHeld ?tkr31
              case tkh31 => (simp only [List.getElem?_toArray, List.getElem?_cons_succ, List.getElem?_cons_zero]; rfl)
              case tkq31 => exact fun _ _ _ h => h
              case tky31 => exact Or.inl ⟨by rfl, by intro wSw hSw; (try dsimp only at hSw); go_simp; try with_reducible rfl⟩
              try simp only [Act.put, List.setIfInBounds_toArray, List.set_cons_zero, List.set_cons_succ]
              refine Late.take (i := 13) (oi := ?tko32) (v := ?tkv32) ?tkh32 (by kernel_rfl) (by kernel_rfl) (by kernel_rfl) (by kernel_rfl) ?tkq32 ?tky32 hHeld ?tkr32
              case tkh32 => (simp only [List.getElem?_toArray, List.getElem?_cons_succ, List.getElem?_cons_zero]; rfl)
              case tkq32 => exact fun _ _ _ h => h
              case tky32 => exact Or.inl ⟨by rfl, by intro wSw hSw; (try dsimp only at hSw); go_simp; try with_reducible rfl⟩
              try simp only [Act.put, List.setIfInBounds_toArray, List.set_cons_zero, List.set_cons_succ]
              refine Late.take (i := 14) (oi := ?tko33) (v := ?tkv33) ?tkh33 (by kernel_rfl) (by kernel_rfl) (by kernel_rfl) (by kernel_rfl) ?tkq33 ?tky33 hHeld ?tkr33
              case tkh33 => (simp only [List.getElem?_toArray, List.getElem?_cons_succ, List.getElem?_cons_zero]; rfl)
              case tkq33 => exact fun _ _ _ h => h
              case tky33 => exact Or.inl ⟨by rfl, by intro wSw hSw; (try dsimp only at hSw); go_simp; try with_reducible rfl⟩
              try simp only [Act.put, List.setIfInBounds_toArray, List.set_cons_zero, List.set_cons_succ]
              refine Late.take (i := 15) (oi := ?tko34) (v := ?tkv34) ?tkh34 (by kernel_rfl) (by kernel_rfl) (by kernel_rfl) (by kernel_rfl) ?tkq34 ?tky34 hHeld ?tkr34
              case tkh34 => (simp only [List.getElem?_toArray, List.getElem?_cons_succ, List.getElem?_cons_zero]; rfl)
              case tkq34 => exact fun _ _ _ h => h
              case tky34 => exact Or.inl ⟨by rfl, by intro wSw hSw; (try dsimp only at hSw); go_simp; try with_reducible rfl⟩
              try simp only [Act.put, List.setIfInBounds_toArray, List.set_cons_zero, List.set_cons_succ]
              refine Late.take (i := 16) (oi := ?tko35) (v := ?tkv35) ?tkh35 (by kernel_rfl) (by kernel_rfl) (by kernel_rfl) (by kernel_rfl) ?tkq35 ?tky35 hHeld ?tkr35
              case tkh35 => (simp only [List.getElem?_toArray, List.getElem?_cons_succ, List.getElem?_cons_zero]; rfl)
              case tkq35 => exact fun _ _ _ h => h
              case tky35 => exact Or.inl ⟨by rfl, by intro wSw hSw; (try dsimp only at hSw); go_simp; try with_reducible rfl⟩
              try simp only [Act.put, List.setIfInBounds_toArray, List.set_cons_zero, List.set_cons_succ]
              refine Late.take (i := 17) (oi := ?tko36) (v := ?tkv36) ?tkh36 (by kernel_rfl) (by kernel_rfl) (by kernel_rfl) (by kernel_rfl) ?tkq36 ?tky36 hHeld ?tkr36
              case tkh36 => (simp only [List.getElem?_toArray, List.getElem?_cons_succ, List.getElem?_cons_zero]; rfl)
              case tkq36 => exact fun _ _ _ h => h
              case tky36 => exact Or.inl ⟨by rfl, by intro wSw hSw; (try dsimp only at hSw); go_simp; try with_reducible rfl⟩
              try simp only [Act.put, List.setIfInBounds_toArray, List.set_cons_zero, List.set_cons_succ]
              refine Late.take (i := 18) (oi := ?tko37) (v := ?tkv37) ?tkh37 (by kernel_rfl) (by kernel_rfl) (by kernel_rfl) (by kernel_rfl) ?tkq37 ?tky37 hHeld ?tkr37
              case tkh37 => (simp only [List.getElem?_toArray, List.getElem?_cons_succ, List.getElem?_cons_zero]; rfl)
              case tkq37 => exact fun _ _ _ h => h
              case tky37 => exact Or.inl ⟨by rfl, by intro wSw hSw; (try dsimp only at hSw); go_simp; try with_reducible rfl⟩
              try simp only [Act.put, List.setIfInBounds_toArray, List.set_cons_zero, List.set_cons_succ]
              refine Late.take (i := 19) (oi := ?tko38) (v := ?tkv38) ?tkh38 (by kernel_rfl) (by kernel_rfl) (by kernel_rfl) (by kernel_rfl) ?tkq38 ?tky38 hHeld ?tkr38
              case tkh38 => (simp only [List.getElem?_toArray, List.getElem?_cons_succ, List.getElem?_cons_zero]; rfl)
              case tkq38 => exact fun _ _ _ h => h
              case tky38 => exact Or.inl ⟨by rfl, by intro wSw hSw; (try dsimp only at hSw); go_simp; try with_reducible rfl⟩
              try simp only [Act.put, List.setIfInBounds_toArray, List.set_cons_zero, List.set_cons_succ]
              refine Late.take (i := 20) (oi := ?tko39) (v := ?tkv39) ?tkh39 (by kernel_rfl) (by kernel_rfl) (by kernel_rfl) (by kernel_rfl) ?tkq39 ?tky39 hHeld ?tkr39
              case tkh39 => (simp only [List.getElem?_toArray, List.getElem?_cons_succ, List.getElem?_cons_zero]; rfl)
              case tkq39 => exact fun _ _ _ h => h
              case tky39 => exact Or.inl ⟨by rfl, by intro wSw hSw; (try dsimp only at hSw); go_simp; try with_reducible rfl⟩
              try simp only [Act.put, List.setIfInBounds_toArray, List.set_cons_zero, List.set_cons_succ]
              refine Late.take (i := 21) (oi := ?tko40) (v := ?tkv40) ?tkh40 (by kernel_rfl) (by kernel_rfl) (by kernel_rfl) (by kernel_rfl) ?tkq40 ?tky40 hHeld ?tkr40
              case tkh40 => (simp only [List.getElem?_toArray, List.getElem?_cons_succ, List.getElem?_cons_zero]; rfl)
              case tkq40 => exact fun _ _ _ h => h
              case tky40 => exact Or.inl ⟨by rfl, by intro wSw hSw; (try dsimp only at hSw); go_simp; try with_reducible rfl⟩
              try simp only [Act.put, List.setIfInBounds_toArray, List.set_cons_zero, List.set_cons_succ]
              refine Late.last (k := 22) (o := ?tko41) (by kernel_rfl) (by kernel_rfl) ?tkh41 (fun Kt41 hKt41 => ?_)
              case tkh41 => (simp only [List.getElem?_toArray, List.getElem?_cons_succ, List.getElem?_cons_zero]; rfl)
              go_simp
              refine hKt41.out _ _ trivial (fun hHt41 => ?_)
              clear hKt41 Kt41 hHeld
              have hHeld := hHt41
              clear hHt41
              try simp only [Act.put, List.setIfInBounds_toArray, List.set_cons_zero, List.set_cons_succ]
              refine wpAnyH_done (by kernel_rfl) ?_ _
              clear hHeld
              go_wp2_with fail
              go_roundw
              case rel => exact ⟨j + 1, by simp, by omega, (HN.out _ rfl).below (Below.refl _ _).drew, (HBN.out _).drew, Lib.hid (HKN.out _)⟩
              case measure => (show nv - (j + 1) < nv - j; omega)
            · refine Late.drew [22] (S := fun W => W.cell? ⟨B, i, none⟩ = some (.slice (some ⟨R i, 0, none⟩) nv nv) ∧ W.cell? ⟨B2, i, none⟩ = some (.slice (some ⟨R2 i, 0, none⟩) nv nv) ∧ W.cell? ⟨R2 i, j, none⟩ = some (.bool false) ∧ W.cell? ⟨B3, i, none⟩ = some (.slice (some ⟨R3 i, 0, none⟩) nv nv) ∧ W.cell? ⟨R3 i, j, none⟩ = some (.bool true)) (by kernel_rfl) ⟨z1, x1, x2, y1, y2⟩ (fun hHeld => ?_)
              refine Late.take (i := 0) (oi := ?tko42) (v := ?tkv42) ?tkh42 (by kernel_rfl) (by kernel_rfl) (by kernel_rfl) (by kernel_rfl) ?tkq42 ?tky42 hHeld ?tkr42
              case tkh42 => (simp only [List.getElem?_toArray, List.getElem?_cons_zero]; rfl)
              case tkq42 => exact fun _ _ _ h => h
              case tky42 => exact Or.inl ⟨by rfl, by intro wSw hSw; (try dsimp only at hSw); go_simp; try with_reducible rfl⟩
              try simp only [Act.put, List.setIfInBounds_toArray, List.set_cons_zero, List.set_cons_succ]
              refine Late.take (i := 1) (oi := ?tko43) (v := ?tkv43) ?tkh43 (by kernel_rfl) (by kernel_rfl) (by kernel_rfl) (by kernel_rfl) ?tkq43 ?tky43 hHeld ?tkr43
              case tkh43 => (simp only [List.getElem?_toArray, List.getElem?_cons_succ, List.getElem?_cons_zero]; rfl)
              case tkq43 => exact fun _ _ _ h => h
              case tky43 => exact Or.inl ⟨by rfl, by intro wSw hSw; (try dsimp only at hSw); go_simp; try with_reducible rfl⟩
              try simp only [Act.put, List.setIfInBounds_toArray, List.set_cons_zero, List.set_cons_succ]
              refine Late.take (i := 2) (oi := ?tko44) (v := ?tkv44) ?tkh44 (by kernel_rfl) (by kernel_rfl) (by kernel_rfl) (by kernel_rfl) ?tkq44 ?tky44 hHeld ?tkr44
              case tkh44 => (simp only [List.getElem?_toArray, List.getElem?_cons_succ, List.getElem?_cons_zero]; rfl)
              case tkq44 => exact fun _ _ _ h => h
              case tky44 => exact Or.inl ⟨by rfl, by intro wSw hSw; (try dsimp only at hSw); go_simp; try with_reducible rfl⟩
              try simp only [Act.put, List.setIfInBounds_toArray, List.set_cons_zero, List.set_cons_succ]
              refine Late.take (i := 3) (oi := ?tko45) (v := ?tkv45) ?tkh45 (by kernel_rfl) (by kernel_rfl) (by kernel_rfl) (by kernel_rfl) ?tkq45 ?tky45 hHeld ?tkr45
              case tkh45 => (simp only [List.getElem?_toArray, List.getElem?_cons_succ, List.getElem?_cons_zero]; rfl)
              case tkq45 => exact fun _ _ _ h => h
              case tky45 => exact Or.inl ⟨by rfl, by intro wSw hSw; (try dsimp only at hSw); go_simp; try with_reducible rfl⟩
              try simp only [Act.put, List.setIfInBounds_toArray, List.set_cons_zero, List.set_cons_succ]
              refine Late.take (i := 4) (oi := ?tko46) (v := ?tkv46) ?tkh46 (by kernel_rfl) (by kernel_rfl) (by kernel_rfl) (by kernel_rfl) ?tkq46 ?tky46 hHeld ?tkr46
              case tkh46 => (simp only [List.getElem?_toArray, List.getElem?_cons_succ, List.getElem?_cons_zero]; rfl)
              case tkq46 => exact fun _ _ _ h => h
              case tky46 => exact Or.inl ⟨by rfl, by intro wSw hSw; (try dsimp only at hSw); go_simp; try with_reducible rfl⟩
              try simp only [Act.put, List.setIfInBounds_toArray, List.set_cons_zero, List.set_cons_succ]
              refine Late.take (i := 5) (oi := ?tko47) (v := ?tkv47) ?tkh47 (by kernel_rfl) (by kernel_rfl) (by kernel_rfl) (by kernel_rfl) ?tkq47 ?tky47 hHeld ?tkr47
              case tkh47 => (simp only [List.getElem?_toArray, List.getElem?_cons_succ, List.getElem?_cons_zero]; rfl)
              case tkq47 => exact fun _ _ _ h => h
              case tky47 => exact Or.inl ⟨by rfl, by intro wSw hSw; (try dsimp only at hSw); go_simp; try with_reducible rfl⟩
              try simp only [Act.put, List.setIfInBounds_toArray, List.set_cons_zero, List.set_cons_succ]
              refine Late.take (i := 6) (oi := ?tko48) (v := ?tkv48) ?tkh48 (by kernel_rfl) (by kernel_rfl) (by kernel_rfl) (by kernel_rfl) ?tkq48 ?tky48 hHeld ?tkr48
              case tkh48 => (simp only [List.getElem?_toArray, List.getElem?_cons_succ, List.getElem?_cons_zero]; rfl)
              case tkq48 => exact fun _ _ _ h => h
              case tky48 => exact Or.inl ⟨by rfl, by intro wSw hSw; (try dsimp only at hSw); go_simp; try with_reducible rfl⟩
              try simp only [Act.put, List.setIfInBounds_toArray, List.set_cons_zero, List.set_cons_succ]
              refine Late.take (i := 7) (oi := ?tko49) (v := ?tkv49) ?tkh49 (by kernel_rfl) (by kernel_rfl) (by kernel_rfl) (by kernel_rfl) ?tkq49 ?tky49 hHeld ?tkr49
              case tkh49 => (simp only [List.getElem?_toArray, List.getElem?_cons_succ, List.getElem?_cons_zero]; rfl)
              case tkq49 => exact fun _ _ _ h => h
              case tky49 => exact Or.inl ⟨by rfl, by intro wSw hSw; (try dsimp only at hSw); go_simp; try with_reducible rfl⟩
              try simp only [Act.put, List.setIfInBounds_toArray, List.set_cons_zero, List.set_cons_succ]
              refine Late.take (i := 8) (oi := ?tko50) (v := ?tkv50) ?tkh50 (by kernel_rfl) (by kernel_rfl) (by kernel_rfl) (by kernel_rfl) ?tkq50 ?tky50 hHeld ?tkr50
              case tkh50 => (simp only [List.getElem?_toArray, List.getElem?_cons_succ, List.getElem?_cons_zero]; rfl)
              case tkq50 => exact fun _ _ _ h => h
              case tky50 => exact Or.inl ⟨by rfl, by intro wSw hSw; (try dsimp only at hSw); go_simp; try with_reducible rfl⟩
              try simp only [Act.put, List.setIfInBounds_toArray, List.set_cons_zero, List.set_cons_succ]
              refine Late.take (i := 9) (oi := ?tko51) (v := ?tkv51) ?tkh51 (by kernel_rfl) (by kernel_rfl) (by kernel_rfl) (by kernel_rfl) ?tkq51 ?tky51 hHeld ?tkr51
              case tkh51 => (simp only [List.getElem?_toArray, List.getElem?_cons_succ, List.getElem?_cons_zero]; rfl)
              case tkq51 => exact fun _ _ _ h => h
              case tky51 => exact Or.inl ⟨by rfl, by intro wSw hSw; (try dsimp only at hSw); go_simp; try with_reducible rfl⟩
              try simp only [Act.put, List.setIfInBounds_toArray, List.set_cons_zero, List.set_cons_succ]
              refine Late.take (i := 10) (oi := ?tko52) (v := ?tkv52) ?tkh52 (by kernel_rfl) (by kernel_rfl) (by kernel_rfl) (by kernel_rfl) ?tkq52 ?tky52 hHeld ?tkr52
              case tkh52 => (simp only [List.getElem?_toArray, List.getElem?_cons_succ, List.getElem?_cons_zero]; rfl)
              case tkq52 => exact fun _ _ _ h => h
              case tky52 => exact Or.inl ⟨by rfl, by intro wSw hSw; (try dsimp only at hSw); go_simp; try with_reducible rfl⟩
              try simp only [Act.put, List.setIfInBounds_toArray, List.set_cons_zero, List.set_cons_succ]
              refine Late.take (i := 11) (oi := ?tko53) (v := ?tkv53) ?tkh53 (by kernel_rfl) (by kernel_rfl) (by kernel_rfl) (by kernel_rfl) ?tkq53 ?tky53 hHeld ?tkr53
              case tkh53 => (simp only [List.getElem?_toArray, List.getElem?_cons_succ, List.getElem?_cons_zero]; rfl)
              case tkq53 => exact fun _ _ _ h => h
              case tky53 => exact Or.inl ⟨by rfl, by intro wSw hSw; (try dsimp only at hSw); go_simp; try with_reducible rfl⟩
              try simp only [Act.put, List.setIfInBounds_toArray, List.set_cons_zero, List.set_cons_succ]
              refine Late.take (i := 12) (oi := ?tko54) (v := ?tkv54) ?tkh54 (by kernel_rfl) (by kernel_rfl) (by kernel_rfl) (by kernel_rfl) ?tkq54 ?tky54 hHeld ?tkr54
              case tkh54 => (simp only [List.getElem?_toArray, List.getElem?_cons_succ, List.getElem?_cons_zero]; rfl)
              case tkq54 => exact fun _ _ _ h => h
              case tky54 => exact Or.inl ⟨by rfl, by intro wSw hSw; (try dsimp only at hSw); go_simp; try with_reducible rfl⟩
              try simp only [Act.put, List.setIfInBounds_toArray, List.set_cons_zero, List.set_cons_succ]
              refine Late.take (i := 13) (oi := ?tko55) (v := ?tkv55) ?tkh55 (by kernel_rfl) (by kernel_rfl) (by kernel_rfl) (by kernel_rfl) ?tkq55 ?tky55 hHeld ?tkr55
              case tkh55 => (simp only [List.getElem?_toArray, List.getElem?_cons_succ, List.getElem?_cons_zero]; rfl)
              case tkq55 => exact fun _ _ _ h => h
              case tky55 => exact Or.inl ⟨by rfl, by intro wSw hSw; (try dsimp only at hSw); go_simp; try with_reducible rfl⟩
              try simp only [Act.put, List.setIfInBounds_toArray, List.set_cons_zero, List.set_cons_succ]
              refine Late.take (i := 14) (oi := ?tko56) (v := ?tkv56) ?tkh56 (by kernel_rfl) (by kernel_rfl) (by kernel_rfl) (by kernel_rfl) ?tkq56 ?tky56 hHeld ?tkr56
              case tkh56 => (simp only [List.getElem?_toArray, List.getElem?_cons_succ, List.getElem?_cons_zero]; rfl)
              case tkq56 => exact fun _ _ _ h => h
              case tky56 => exact Or.inl ⟨by rfl, by intro wSw hSw; (try dsimp only at hSw); go_simp; try with_reducible rfl⟩
              try simp only [Act.put, List.setIfInBounds_toArray, List.set_cons_zero, List.set_cons_succ]
              refine Late.take (i := 15) (oi := ?tko57) (v := ?tkv57) ?tkh57 (by kernel_rfl) (by kernel_rfl) (by kernel_rfl) (by kernel_rfl) ?tkq57 ?tky57 hHeld ?tkr57
              case tkh57 => (simp only [List.getElem?_toArray, List.getElem?_cons_succ, List.getElem?_cons_zero]; rfl)
              case tkq57 => exact fun _ _ _ h => h
              case tky57 => exact Or.inl ⟨by rfl, by intro wSw hSw; (try dsimp only at hSw); go_simp; try with_reducible rfl⟩
              try simp only [Act.put, List.setIfInBounds_toArray, List.set_cons_zero, List.set_cons_succ]
              refine Late.take (i := 16) (oi := ?tko58) (v := ?tkv58) ?tkh58 (by kernel_rfl) (by kernel_rfl) (by kernel_rfl) (by kernel_rfl) ?tkq58 ?tky58 hHeld ?tkr58
              case tkh58 => (simp only [List.getElem?_toArray, List.getElem?_cons_succ, List.getElem?_cons_zero]; rfl)
              case tkq58 => exact fun _ _ _ h => h
              case tky58 => exact Or.inl ⟨by rfl, by intro wSw hSw; (try dsimp only at hSw); go_simp; try with_reducible rfl⟩
              try simp only [Act.put, List.setIfInBounds_toArray, List.set_cons_zero, List.set_cons_succ]
              refine Late.take (i := 17) (oi := ?tko59) (v := ?tkv59) ?tkh59 (by kernel_rfl) (by kernel_rfl) (by kernel_rfl) (by kernel_rfl) ?tkq59 ?tky59 hHeld ?tkr59
              case tkh59 => (simp only [List.getElem?_toArray, List.getElem?_cons_succ, List.getElem?_cons_zero]; rfl)
              case tkq59 => exact fun _ _ _ h => h
              case tky59 => exact Or.inl ⟨by rfl, by intro wSw hSw; (try dsimp only at hSw); go_simp; try with_reducible rfl⟩
              try simp only [Act.put, List.setIfInBounds_toArray, List.set_cons_zero, List.set_cons_succ]
              refine Late.take (i := 18) (oi := ?tko60) (v := ?tkv60) ?tkh60 (by kernel_rfl) (by kernel_rfl) (by kernel_rfl) (by kernel_rfl) ?tkq60 ?tky60 hHeld ?tkr60
              case tkh60 => (simp only [List.getElem?_toArray, List.getElem?_cons_succ, List.getElem?_cons_zero]; rfl)
              case tkq60 => exact fun _ _ _ h => h
              case tky60 => exact Or.inl ⟨by rfl, by intro wSw hSw; (try dsimp only at hSw); go_simp; try with_reducible rfl⟩
              try simp only [Act.put, List.setIfInBounds_toArray, List.set_cons_zero, List.set_cons_succ]
              refine Late.take (i := 19) (oi := ?tko61) (v := ?tkv61) ?tkh61 (by kernel_rfl) (by kernel_rfl) (by kernel_rfl) (by kernel_rfl) ?tkq61 ?tky61 hHeld ?tkr61
              case tkh61 => (simp only [List.getElem?_toArray, List.getElem?_cons_succ, List.getElem?_cons_zero]; rfl)
              case tkq61 => exact fun _ _ _ h => h
              case tky61 => exact Or.inl ⟨by rfl, by intro wSw hSw; (try dsimp only at hSw); go_simp; try with_reducible rfl⟩
              try simp only [Act.put, List.setIfInBounds_toArray, List.set_cons_zero, List.set_cons_succ]
              refine Late.take (i := 20) (oi := ?tko62) (v := ?tkv62) ?tkh62 (by kernel_rfl) (by kernel_rfl) (by kernel_rfl) (by kernel_rfl) ?tkq62 ?tky62 hHeld ?tkr62
              case tkh62 => (simp only [List.getElem?_toArray, List.getElem?_cons_succ, List.getElem?_cons_zero]; rfl)
              case tkq62 => exact fun _ _ _ h => h
              case tky62 => exact Or.inl ⟨by rfl, by intro wSw hSw; (try dsimp only at hSw); go_simp; try with_reducible rfl⟩
              try simp only [Act.put, List.setIfInBounds_toArray, List.set_cons_zero, List.set_cons_succ]
              refine Late.take (i := 21) (oi := ?tko63) (v := ?tkv63) ?tkh63 (by kernel_rfl) (by kernel_rfl) (by kernel_rfl) (by kernel_rfl) ?tkq63 ?tky63 hHeld ?tkr63
              case tkh63 => (simp only [List.getElem?_toArray, List.getElem?_cons_succ, List.getElem?_cons_zero]; rfl)
              case tkq63 => exact fun _ _ _ h => h
              case tky63 => exact Or.inl ⟨by rfl, by intro wSw hSw; (try dsimp only at hSw); go_simp; try with_reducible rfl⟩
              try simp only [Act.put, List.setIfInBounds_toArray, List.set_cons_zero, List.set_cons_succ]
              refine Late.last (k := 22) (o := ?tko64) (by kernel_rfl) (by kernel_rfl) ?tkh64 (fun Kt64 hKt64 => ?_)
              case tkh64 => (simp only [List.getElem?_toArray, List.getElem?_cons_succ, List.getElem?_cons_zero]; rfl)
              go_simp
              refine hKt64.out _ _ trivial (fun hHt64 => ?_)
              clear hKt64 Kt64 hHeld
              have hHeld := hHt64
              clear hHt64
              try simp only [Act.put, List.setIfInBounds_toArray, List.set_cons_zero, List.set_cons_succ]
              refine wpAnyH_done (by kernel_rfl) ?_ _
              clear hHeld
              go_wp2_with fail
              go_roundw
              case rel => exact ⟨j + 1, by simp, by omega, (HN.out _ rfl).below (Below.refl _ _).drew, (HBN.out _).drew, Lib.hid (HKN.out _)⟩
              case measure => (show nv - (j + 1) < nv - j; omega)
          · refine Late.drew [22] (S := fun W => W.cell? ⟨B, i, none⟩ = some (.slice (some ⟨R i, 0, none⟩) nv nv) ∧ W.cell? ⟨B2, i, none⟩ = some (.slice (some ⟨R2 i, 0, none⟩) nv nv) ∧ W.cell? ⟨R2 i, j, none⟩ = some (.bool true) ∧ W.cell? ⟨B3, i, none⟩ = some (.slice (some ⟨R3 i, 0, none⟩) nv nv) ∧ W.cell? ⟨R3 i, j, none⟩ = some (.bool vb)) (by kernel_rfl) ⟨z1, x1, x2, y1, y2⟩ (fun hHeld => ?_)
            refine Late.take (i := 0) (oi := ?tko65) (v := ?tkv65) ?tkh65 (by kernel_rfl) (by kernel_rfl) (by kernel_rfl) (by kernel_rfl) ?tkq65 ?tky65 hHeld ?tkr65
            case tkh65 => (simp only [List.getElem?_toArray, List.getElem?_cons_zero]; rfl)
            case tkq65 => exact fun _ _ _ h => h
            case tky65 => exact Or.inl ⟨by rfl, by intro wSw hSw; (try dsimp only at hSw); go_simp; try with_reducible rfl⟩
            try simp only [Act.put, List.setIfInBounds_toArray, List.set_cons_zero, List.set_cons_succ]
            refine Late.take (i := 1) (oi := ?tko66) (v := ?tkv66) ?tkh66 (by kernel_rfl) (by kernel_rfl) (by kernel_rfl) (by kernel_rfl) ?tkq66 ?tky66 hHeld ?tkr66
            case tkh66 => (simp only [List.getElem?_toArray, List.getElem?_cons_succ, List.getElem?_cons_zero]; rfl)
            case tkq66 => exact fun _ _ _ h => h
            case tky66 => exact Or.inl ⟨by rfl, by intro wSw hSw; (try dsimp only at hSw); go_simp; try with_reducible rfl⟩
            try simp only [Act.put, List.setIfInBounds_toArray, List.set_cons_zero, List.set_cons_succ]
            refine Late.take (i := 2) (oi := ?tko67) (v := ?tkv67) ?tkh67 (by kernel_rfl) (by kernel_rfl) (by kernel_rfl) (by kernel_rfl) ?tkq67 ?tky67 hHeld ?tkr67
            case tkh67 => (simp only [List.getElem?_toArray, List.getElem?_cons_succ, List.getElem?_cons_zero]; rfl)
            case tkq67 => exact fun _ _ _ h => h
            case tky67 => exact Or.inl ⟨by rfl, by intro wSw hSw; (try dsimp only at hSw); go_simp; try with_reducible rfl⟩
            try simp only [Act.put, List.setIfInBounds_toArray, List.set_cons_zero, List.set_cons_succ]
            refine Late.take (i := 3) (oi := ?tko68) (v := ?tkv68) ?tkh68 (by kernel_rfl) (by kernel_rfl) (by kernel_rfl) (by kernel_rfl) ?tkq68 ?tky68 hHeld ?tkr68
            case tkh68 => (simp only [List.getElem?_toArray, List.getElem?_cons_succ, List.getElem?_cons_zero]; rfl)
            case tkq68 => exact fun _ _ _ h => h
            case tky68 => exact Or.inl ⟨by rfl, by intro wSw hSw; (try dsimp only at hSw); go_simp; try with_reducible rfl⟩
            try simp only [Act.put, List.setIfInBounds_toArray, List.set_cons_zero, List.set_cons_succ]
            refine Late.take (i := 4) (oi := ?tko69) (v := ?tkv69) ?tkh69 (by kernel_rfl) (by kernel_rfl) (by kernel_rfl) (by kernel_rfl) ?tkq69 ?tky69 hHeld ?tkr69
            case tkh69 => (simp only [List.getElem?_toArray, List.getElem?_cons_succ, List.getElem?_cons_zero]; rfl)
            case tkq69 => exact fun _ _ _ h => h
            case tky69 => exact Or.inl ⟨by rfl, by intro wSw hSw; (try dsimp only at hSw); go_simp; try with_reducible rfl⟩
            try simp only [Act.put, List.setIfInBounds_toArray, List.set_cons_zero, List.set_cons_succ]
            refine Late.take (i := 5) (oi := ?tko70) (v := ?tkv70) ?tkh70 (by kernel_rfl) (by kernel_rfl) (by kernel_rfl) (by kernel_rfl) ?tkq70 ?tky70 hHeld ?tkr70
            case tkh70 => (simp only [List.getElem?_toArray, List.getElem?_cons_succ, List.getElem?_cons_zero]; rfl)
            case tkq70 => exact fun _ _ _ h => h
            case tky70 => exact Or.inl ⟨by rfl, by intro wSw hSw; (try dsimp only at hSw); go_simp; try with_reducible rfl⟩
            try simp only [Act.put, List.setIfInBounds_toArray, List.set_cons_zero, List.set_cons_succ]
            refine Late.take (i := 6) (oi := ?tko71) (v := ?tkv71) ?tkh71 (by kernel_rfl) (by kernel_rfl) (by kernel_rfl) (by kernel_rfl) ?tkq71 ?tky71 hHeld ?tkr71
            case tkh71 => (simp only [List.getElem?_toArray, List.getElem?_cons_succ, List.getElem?_cons_zero]; rfl)
            case tkq71 => exact fun _ _ _ h => h
            case tky71 => exact Or.inl ⟨by rfl, by intro wSw hSw; (try dsimp only at hSw); go_simp; try with_reducible rfl⟩
            try simp only [Act.put, List.setIfInBounds_toArray, List.set_cons_zero, List.set_cons_succ]
            refine Late.take (i := 7) (oi := ?tko72) (v := ?tkv72) ?tkh72 (by kernel_rfl) (by kernel_rfl) (by kernel_rfl) (by kernel_rfl) ?tkq72 ?tky72 hHeld ?tkr72
            case tkh72 => (simp only [List.getElem?_toArray, List.getElem?_cons_succ, List.getElem?_cons_zero]; rfl)
            case tkq72 => exact fun _ _ _ h => h
            case tky72 => exact Or.inl ⟨by rfl, by intro wSw hSw; (try dsimp only at hSw); go_simp; try with_reducible rfl⟩
            try simp only [Act.put, List.setIfInBounds_toArray, List.set_cons_zero, List.set_cons_succ]
            refine Late.take (i := 8) (oi := ?tko73) (v := ?tkv73) ?tkh73 (by kernel_rfl) (by kernel_rfl) (by kernel_rfl) (by kernel_rfl) ?tkq73 ?tky73 hHeld ?tkr73
            case tkh73 => (simp only [List.getElem?_toArray, List.getElem?_cons_succ, List.getElem?_cons_zero]; rfl)
            case tkq73 => exact fun _ _ _ h => h
            case tky73 => exact Or.inl ⟨by rfl, by intro wSw hSw; (try dsimp only at hSw); go_simp; try with_reducible rfl⟩
            try simp only [Act.put, List.setIfInBounds_toArray, List.set_cons_zero, List.set_cons_succ]
            refine Late.take (i := 9) (oi := ?tko74) (v := ?tkv74) ?tkh74 (by kernel_rfl) (by kernel_rfl) (by kernel_rfl) (by kernel_rfl) ?tkq74 ?tky74 hHeld ?tkr74
            case tkh74 => (simp only [List.getElem?_toArray, List.getElem?_cons_succ, List.getElem?_cons_zero]; rfl)
            case tkq74 => exact fun _ _ _ h => h
            case tky74 => exact Or.inl ⟨by rfl, by intro wSw hSw; (try dsimp only at hSw); go_simp; try with_reducible rfl⟩
            try simp only [Act.put, List.setIfInBounds_toArray, List.set_cons_zero, List.set_cons_succ]
            refine Late.take (i := 10) (oi := ?tko75) (v := ?tkv75) ?tkh75 (by kernel_rfl) (by kernel_rfl) (by kernel_rfl) (by kernel_rfl) ?tkq75 ?tky75 hHeld ?tkr75
            case tkh75 => (simp only [List.getElem?_toArray, List.getElem?_cons_succ, List.getElem?_cons_zero]; rfl)
            case tkq75 => exact fun _ _ _ h => h
            case tky75 => exact Or.inl ⟨by rfl, by intro wSw hSw; (try dsimp only at hSw); go_simp; try with_reducible rfl⟩
            try simp only [Act.put, List.setIfInBounds_toArray, List.set_cons_zero, List.set_cons_succ]
            refine Late.take (i := 11) (oi := ?tko76) (v := ?tkv76) ?tkh76 (by kernel_rfl) (by kernel_rfl) (by kernel_rfl) (by kernel_rfl) ?tkq76 ?tky76 hHeld ?tkr76
            case tkh76 => (simp only [List.getElem?_toArray, List.getElem?_cons_succ, List.getElem?_cons_zero]; rfl)
            case tkq76 => exact fun _ _ _ h => h
            case tky76 => exact Or.inl ⟨by rfl, by intro wSw hSw; (try dsimp only at hSw); go_simp; try with_reducible rfl⟩
            try simp only [Act.put, List.setIfInBounds_toArray, List.set_cons_zero, List.set_cons_succ]
            refine Late.take (i := 12) (oi := ?tko77) (v := ?tkv77) ?tkh77 (by kernel_rfl) (by kernel_rfl) (by kernel_rfl) (by kernel_rfl) ?tkq77 ?tky77 hHeld ?tkr77
            case tkh77 => (simp only [List.getElem?_toArray, List.getElem?_cons_succ, List.getElem?_cons_zero]; rfl)
            case tkq77 => exact fun _ _ _ h => h
            case tky77 => exact Or.inl ⟨by rfl, by intro wSw hSw; (try dsimp only at hSw); go_simp; try with_reducible rfl⟩
            try simp only [Act.put, List.setIfInBounds_toArray, List.set_cons_zero, List.set_cons_succ]
            refine Late.take (i := 13) (oi := ?tko78) (v := undef) ?tkh78 (by kernel_rfl) (by kernel_rfl) (by kernel_rfl) (by kernel_rfl) ?tkq78 ?tky78 hHeld ?tkr78
            case tkh78 => (simp only [List.getElem?_toArray, List.getElem?_cons_succ, List.getElem?_cons_zero]; rfl)
            case tkq78 => exact fun _ _ _ h => h
            case tky78 => exact Or.inr ⟨by rfl, rfl⟩
            try simp only [Act.put, List.setIfInBounds_toArray, List.set_cons_zero, List.set_cons_succ]
            refine Late.take (i := 14) (oi := ?tko79) (v := undef) ?tkh79 (by kernel_rfl) (by kernel_rfl) (by kernel_rfl) (by kernel_rfl) ?tkq79 ?tky79 hHeld ?tkr79
            case tkh79 => (simp only [List.getElem?_toArray, List.getElem?_cons_succ, List.getElem?_cons_zero]; rfl)
            case tkq79 => exact fun _ _ _ h => h
            case tky79 => exact Or.inr ⟨by rfl, rfl⟩
            try simp only [Act.put, List.setIfInBounds_toArray, List.set_cons_zero, List.set_cons_succ]
            refine Late.take (i := 15) (oi := ?tko80) (v := undef) ?tkh80 (by kernel_rfl) (by kernel_rfl) (by kernel_rfl) (by kernel_rfl) ?tkq80 ?tky80 hHeld ?tkr80
            case tkh80 => (simp only [List.getElem?_toArray, List.getElem?_cons_succ, List.getElem?_cons_zero]; rfl)
            case tkq80 => exact fun _ _ _ h => h
            case tky80 => exact Or.inr ⟨by rfl, rfl⟩
            try simp only [Act.put, List.setIfInBounds_toArray, List.set_cons_zero, List.set_cons_succ]
            refine Late.take (i := 16) (oi := ?tko81) (v := undef) ?tkh81 (by kernel_rfl) (by kernel_rfl) (by kernel_rfl) (by kernel_rfl) ?tkq81 ?tky81 hHeld ?tkr81
            case tkh81 => (simp only [List.getElem?_toArray, List.getElem?_cons_succ, List.getElem?_cons_zero]; rfl)
            case tkq81 => exact fun _ _ _ h => h
            case tky81 => exact Or.inr ⟨by rfl, rfl⟩
            try simp only [Act.put, List.setIfInBounds_toArray, List.set_cons_zero, List.set_cons_succ]
            refine Late.take (i := 17) (oi := ?tko82) (v := undef) ?tkh82 (by kernel_rfl) (by kernel_rfl) (by kernel_rfl) (by kernel_rfl) ?tkq82 ?tky82 hHeld ?tkr82
            case tkh82 => (simp only [List.getElem?_toArray, List.getElem?_cons_succ, List.getElem?_cons_zero]; rfl)
            case tkq82 => exact fun _ _ _ h => h
            case tky82 => exact Or.inr ⟨by rfl, rfl⟩
            try simp only [Act.put, List.setIfInBounds_toArray, List.set_cons_zero, List.set_cons_succ]
            refine Late.take (i := 18) (oi := ?tko83) (v := undef) ?tkh83 (by kernel_rfl) (by kernel_rfl) (by kernel_rfl) (by kernel_rfl) ?tkq83 ?tky83 hHeld ?tkr83
            case tkh83 => (simp only [List.getElem?_toArray, List.getElem?_cons_succ, List.getElem?_cons_zero]; rfl)
            case tkq83 => exact fun _ _ _ h => h
            case tky83 => exact Or.inr ⟨by rfl, rfl⟩
            try simp only [Act.put, List.setIfInBounds_toArray, List.set_cons_zero, List.set_cons_succ]
            refine Late.take (i := 19) (oi := ?tko84) (v := undef) ?tkh84 (by kernel_rfl) (by kernel_rfl) (by kernel_rfl) (by kernel_rfl) ?tkq84 ?tky84 hHeld ?tkr84
            case tkh84 => (simp only [List.getElem?_toArray, List.getElem?_cons_succ, List.getElem?_cons_zero]; rfl)
            case tkq84 => exact fun _ _ _ h => h
            case tky84 => exact Or.inr ⟨by rfl, rfl⟩
            try simp only [Act.put, List.setIfInBounds_toArray, List.set_cons_zero, List.set_cons_succ]
            refine Late.take (i := 20) (oi := ?tko85) (v := ?tkv85) ?tkh85 (by kernel_rfl) (by kernel_rfl) (by kernel_rfl) (by kernel_rfl) ?tkq85 ?tky85 hHeld ?tkr85
            case tkh85 => (simp only [List.getElem?_toArray, List.getElem?_cons_succ, List.getElem?_cons_zero]; rfl)
            case tkq85 => exact fun _ _ _ h => h
            case tky85 => exact Or.inl ⟨by rfl, by intro wSw hSw; (try dsimp only at hSw); go_simp; try with_reducible rfl⟩
            try simp only [Act.put, List.setIfInBounds_toArray, List.set_cons_zero, List.set_cons_succ]
            refine Late.take (i := 21) (oi := ?tko86) (v := ?tkv86) ?tkh86 (by kernel_rfl) (by kernel_rfl) (by kernel_rfl) (by kernel_rfl) ?tkq86 ?tky86 hHeld ?tkr86
            case tkh86 => (simp only [List.getElem?_toArray, List.getElem?_cons_succ, List.getElem?_cons_zero]; rfl)
            case tkq86 => exact fun _ _ _ h => h
            case tky86 => exact Or.inl ⟨by rfl, by intro wSw hSw; (try dsimp only at hSw); go_simp; try with_reducible rfl⟩
            try simp only [Act.put, List.setIfInBounds_toArray, List.set_cons_zero, List.set_cons_succ]
            refine Late.last (k := 22) (o := ?tko87) (by kernel_rfl) (by kernel_rfl) ?tkh87 (fun Kt87 hKt87 => ?_)
            case tkh87 => (simp only [List.getElem?_toArray, List.getElem?_cons_succ, List.getElem?_cons_zero]; rfl)
            go_simp
            refine hKt87.out _ _ trivial (fun hHt87 => ?_)
            clear hKt87 Kt87 hHeld
            have hHeld := hHt87
            clear hHt87
            try simp only [Act.put, List.setIfInBounds_toArray, List.set_cons_zero, List.set_cons_succ]
            refine wpAnyH_done (by kernel_rfl) ?_ _
            clear hHeld
            go_wp2_with fail
            go_roundw
            case rel => exact ⟨j + 1, by simp, by omega, (HN.out _ rfl).below (Below.refl _ _).drew, (HBN.out _).drew, Lib.hid (HKN.out _)⟩
            case measure => (show nv - (j + 1) < nv - j; omega)
        · obtain rfl : j = nv := by omega
          clear ht hB hkeep
          go_wp2_with fail
          go_roundw
          case rel => exact ⟨i + 1, by simp, by omega, HTj.out.ext (fun p q _ hq => partA_row t0 t1 i j p q hq), HBj.out, Lib.hid HKj.out⟩
          case measure => (show j - (i + 1) < j - i; omega)
    · obtain rfl : i = nv := by omega
      have HX := Lib.hid (HTi.out.ext (m' := altT t0 t1) (fun p q hp _ => partA_end t0 t1 i p q hp))
      rw [HE.out] at HX
      go_wp2_with fail
      go_ret
      exact ⟨B, R, rfl, HX.out, HBi.out⟩
end Go.Proofs.Ytcpmcgbjmncalaa.Paths
