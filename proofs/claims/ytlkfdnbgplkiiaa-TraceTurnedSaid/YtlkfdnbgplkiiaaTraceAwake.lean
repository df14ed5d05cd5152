/-
  The walks of the law's awake (stage 8). By an AI agent.
-/
import Derived.Test.YtlkfdnbgplkiiaaTraceLand2
import Derived.Test.YtlkfdnbgplkiiaaTraceLand4
import Derived.Test.YtlkfdnbgplkiiaaSkips
namespace Go.Proofs.Ytlkfdnbgplkiiaa.Trace
open Go.RowKit Go.Proofs.Ytlkfdnbgplkiiaa.Ints Go.Proofs.Ytlkfdnbgplkiiaa.Mem

/-- The trace that every program must know. -/
def trA : Tr := ⟨[[112], [113]], [⟨3, [1]⟩]⟩
theorem trA_may : mayT trA = true := by decide +kernel
theorem trA_q : holdsT trA 0 (⟨#[113]⟩ : ByteArray).data.toList = true := by decide +kernel
theorem trA_p : holdsT trA 0 (⟨#[112]⟩ : ByteArray).data.toList = false := by decide +kernel
theorem trA_front : frontT (cutT trA 0) trA = true := by decide +kernel
theorem trA_small : TrSmall trA := ⟨by decide, by decide, by decide⟩
abbrev wA1 (w : World) : World := w.alloc (.cells #[.string { data := #[112] }, .string { data := #[113] }] 9)
abbrev wA2 (w : World) : World := (wA1 w).alloc (.cells #[.int .i64 1] 3)
abbrev wA3 (w : World) : World := (wA2 w).alloc (.cells #[.int .u64 3, .slice (some ⟨w.heap.size + 1, 0, none⟩) 1 1] 39)
abbrev wA4 (w : World) : World := (wA3 w).alloc (.cells #[.slice (some ⟨w.heap.size, 0, none⟩) 2 2, .slice (some ⟨w.heap.size + 1 + 1, 0, none⟩) 1 1] 26)
theorem wA_sizes (w : World) : (wA1 w).heap.size = w.heap.size + 1 ∧ (wA2 w).heap.size = w.heap.size + 1 + 1 ∧ (wA3 w).heap.size = w.heap.size + 1 + 1 + 1 := by simp [wA1, wA2, wA3]
theorem trA_ok (w : World) : TrOk Any (wA4 w) (some ⟨w.heap.size, 0, none⟩) 2 2 (some ⟨w.heap.size + 1 + 1, 0, none⟩) 1 1 trA := by
  obtain ⟨s1, s2, s3⟩ := wA_sizes w
  have b1 : Below (wA1 w).heap.size (wA1 w) (wA2 w) := (Below.refl _ _).alloc (Nat.le_refl _) _
  have b2 : Below (wA2 w).heap.size (wA2 w) (wA3 w) := (Below.refl _ _).alloc (Nat.le_refl _) _
  have b3 : Below (wA3 w).heap.size (wA3 w) (wA4 w) := (Below.refl _ _).alloc (Nat.le_refl _) _
  have b14 : Below (wA1 w).heap.size (wA1 w) (wA4 w) := (b1.trans (b2.mono b1.size)).trans (b3.mono (Nat.le_trans b1.size b2.size))
  refine ⟨rfl, rfl, ?_, fun s hs => ?_, ?_, ⟨Nat.le_refl _, by decide⟩, ⟨Nat.le_refl _, by decide⟩⟩
  · refine Strs.below (w := wA1 w) (fun _ => ⟨w.heap.size, 0, rfl, fun j s hs => ?_⟩) b14
    rw [cell_of_row _ w.heap.size (0 + j) _ 9 (0, 0) (heap_alloc_new w _)]
    match j, hs with
    | 0, hs => simp [trA] at hs; subst hs; rfl
    | 1, hs => simp [trA] at hs; subst hs; rfl
    | j + 2, hs => simp [trA] at hs
  · simp only [trA, List.mem_cons, List.not_mem_nil, or_false] at hs
    rcases hs with rfl | rfl <;> decide
  · refine Evs.below (w := wA3 w) ?_ b3
    have hK : Rd .i64 (wA3 w) (some ⟨w.heap.size + 1, 0, none⟩) 1 [1] := by
      have := (Rd.lit (k := .i64) (wA1 w) 3 (0, 0) [1] (fun z hz => by simp at hz; subst hz; decide)).below b2
      rw [s1] at this
      exact this
    have hb := heap_alloc_new (wA2 w) (.cells #[.int .u64 3, .slice (some ⟨w.heap.size + 1, 0, none⟩) 1 1] 39)
    rw [s2] at hb
    exact box_evs (x := ⟨3, [1]⟩) hb ⟨by decide, hK, Nat.le_refl _, by decide⟩ trivial (fun _ _ _ => trivial)
theorem wA_below {w W : World} (hb : Below (wA4 w).heap.size (wA4 w) W) : W.cell? ⟨w.heap.size + 1 + 1 + 1, 0, none⟩ = some (.slice (some ⟨w.heap.size, 0, none⟩) 2 2) ∧ W.cell? ⟨w.heap.size + 1 + 1 + 1, 1, none⟩ = some (.slice (some ⟨w.heap.size + 1 + 1, 0, none⟩) 1 1) ∧ Below (wA4 w).heap.size (wA4 w) W := by
  obtain ⟨s1, s2, s3⟩ := wA_sizes w
  have c0 : (wA4 w).cell? ⟨(wA3 w).heap.size, 0, none⟩ = some (.slice (some ⟨w.heap.size, 0, none⟩) 2 2) := box_cell 0 _ rfl
  have c1 : (wA4 w).cell? ⟨(wA3 w).heap.size, 1, none⟩ = some (.slice (some ⟨w.heap.size + 1 + 1, 0, none⟩) 1 1) := box_cell 1 _ rfl
  rw [s3] at c0 c1
  exact ⟨below_cell hb c0, below_cell hb c1, hb⟩
theorem wA_old {w W : World} (hb : Below (wA4 w).heap.size (wA4 w) W) : Below w.heap.size w W := by
  obtain ⟨s1, s2, s3⟩ := wA_sizes w
  have b0 : Below w.heap.size w (wA4 w) := ((((Below.refl _ w).alloc (Nat.le_refl _) _).alloc (by rw [s1]; omega) _).alloc (by rw [s2]; omega) _).alloc (by rw [s3]; omega) _
  exact b0.trans (hb.mono b0.size)

set_option maxHeartbeats 8000000 in
set_option maxRecDepth 100000 in
theorem awake (w : World) : Calls Try.prog 9 #[] w fun e w' => e = .returned (.bool true) ∧ Below w.heap.size w w' := by
  have hO := fun W (hb : Below (wA4 w).heap.size (wA4 w) W) => (trA_ok w).below hb
  have hM := fun W hb => landMay _ _ _ _ _ _ trA W (hO W hb)
  rw [trA_may] at hM
  have hQ := fun W hb => landHolds _ _ _ _ _ _ trA 0 ⟨#[113]⟩ W (hO W hb) ⟨by decide, by decide⟩
  rw [trA_q] at hQ
  have hP := fun W hb => landHolds _ _ _ _ _ _ trA 0 ⟨#[112]⟩ W (hO W hb) ⟨by decide, by decide⟩
  rw [trA_p] at hP
  have hC := fun W hb => landCut _ _ _ _ _ _ trA 0 W (hO W hb) trA_small ⟨by decide, by decide⟩
  have hF := fun (NA : Option Addr) (nn nc : Nat) (EA : Option Addr) (ne ec : Nat) W (h : TrOk Any W NA nn nc EA ne ec (cutT trA 0)) hb => landFront _ _ _ _ _ _ _ _ _ _ _ _ (cutT trA 0) trA W h (hO W hb)
  rw [trA_front] at hF
  have HM := Lib.hid hM
  have HQ := Lib.hid hQ
  have HP := Lib.hid hP
  have HC := Lib.hid hC
  have HF := Lib.hid hF
  clear hO hM hQ hP hC hF
  go_enter Try.func9, Try.ntmps9
  go_wp2
  refine wp_region_held_drew (S := (fun W => W.cell? ⟨w.heap.size + 1 + 1 + 1, 0, none⟩ = some (.slice (some ⟨w.heap.size, 0, none⟩) 2 2) ∧ W.cell? ⟨w.heap.size + 1 + 1 + 1, 1, none⟩ = some (.slice (some ⟨w.heap.size + 1 + 1, 0, none⟩) 1 1) ∧ Below (wA4 w).heap.size (wA4 w) W)) (by kernel_rfl) (wA_below (Below.refl _ _).drew) (fun hHeld => ?_)
  refine wpAnyH_take (i := 0) (oi := ?tko1) (v := ?tkv1) ?tkh1 (by kernel_rfl) (by kernel_rfl) (by kernel_rfl) ?tkq1 ?tky1 hHeld ?tkr1
  case tkh1 => (simp only [List.getElem?_toArray, List.getElem?_cons_zero]; rfl)
  case tkq1 => exact fun _ _ _ h => h
  case tky1 => exact Or.inl ⟨by rfl, by intro wSw hSw; (try dsimp only at hSw); go_simp; try with_reducible rfl⟩
  try simp only [Act.put, List.setIfInBounds_toArray, List.set_cons_zero, List.set_cons_succ]
  refine wpAnyH_ready (rs := [1]) (by kernel_rfl) (by simp) ?_
  refine AllReadyH.cons (o := ?tko2) ?tkh2 (fun Kt2 hKt2 => ?_) AllReadyH.nil
  case tkh2 => (simp only [List.getElem?_toArray, List.getElem?_cons_succ, List.getElem?_cons_zero]; rfl)
  go_simp
  (go_at_call 16; refine (HM.out _ (Below.refl _ _).drew).mono ?_; rintro e w1 ⟨rfl, hb1⟩; have hB1 := undrew1 hb1)
  refine hKt2.out _ _ ?_ (fun hHt2 => ?_)
  · (exact wA_below hB1)
  clear hKt2 Kt2 hHeld
  have hHeld := hHt2
  clear hHt2
  try simp only [Act.put, List.setIfInBounds_toArray, List.set_cons_zero, List.set_cons_succ]
  refine wpAnyH_take (i := 2) (oi := ?tko3) (v := ?tkv3) ?tkh3 (by kernel_rfl) (by kernel_rfl) (by kernel_rfl) ?tkq3 ?tky3 hHeld ?tkr3
  case tkh3 => (simp only [List.getElem?_toArray, List.getElem?_cons_succ, List.getElem?_cons_zero]; rfl)
  case tkq3 => exact fun _ _ _ h => h
  case tky3 => exact Or.inl ⟨by rfl, by intro wSw hSw; (try dsimp only at hSw); go_simp; try with_reducible rfl⟩
  try simp only [Act.put, List.setIfInBounds_toArray, List.set_cons_zero, List.set_cons_succ]
  refine wpAnyH_take (i := 3) (oi := ?tko4) (v := ?tkv4) ?tkh4 (by kernel_rfl) (by kernel_rfl) (by kernel_rfl) ?tkq4 ?tky4 hHeld ?tkr4
  case tkh4 => (simp only [List.getElem?_toArray, List.getElem?_cons_succ, List.getElem?_cons_zero]; rfl)
  case tkq4 => exact fun _ _ _ h => h
  case tky4 => exact Or.inl ⟨by rfl, by intro wSw hSw; (try dsimp only at hSw); go_simp; try with_reducible rfl⟩
  try simp only [Act.put, List.setIfInBounds_toArray, List.set_cons_zero, List.set_cons_succ]
  refine wpAnyH_ready (rs := [4]) (by kernel_rfl) (by simp) ?_
  refine AllReadyH.cons (o := ?tko5) ?tkh5 (fun Kt5 hKt5 => ?_) AllReadyH.nil
  case tkh5 => (simp only [List.getElem?_toArray, List.getElem?_cons_succ, List.getElem?_cons_zero]; rfl)
  go_simp
  (go_at_call 18; refine (HQ.out _ hB1).mono ?_; rintro e w2 ⟨rfl, hb2⟩; have hB2 := hB1.trans (hb2.mono hB1.size))
  refine hKt5.out _ _ ?_ (fun hHt5 => ?_)
  · (exact wA_below hB2)
  clear hKt5 Kt5 hHeld
  have hHeld := hHt5
  clear hHt5
  try simp only [Act.put, List.setIfInBounds_toArray, List.set_cons_zero, List.set_cons_succ]
  refine wpAnyH_take (i := 5) (oi := ?tko6) (v := ?tkv6) ?tkh6 (by kernel_rfl) (by kernel_rfl) (by kernel_rfl) ?tkq6 ?tky6 hHeld ?tkr6
  case tkh6 => (simp only [List.getElem?_toArray, List.getElem?_cons_succ, List.getElem?_cons_zero]; rfl)
  case tkq6 => exact fun _ _ _ h => h
  case tky6 => exact Or.inl ⟨by rfl, by intro wSw hSw; (try dsimp only at hSw); go_simp; try with_reducible rfl⟩
  try simp only [Act.put, List.setIfInBounds_toArray, List.set_cons_zero, List.set_cons_succ]
  refine wpAnyH_take (i := 6) (oi := ?tko7) (v := ?tkv7) ?tkh7 (by kernel_rfl) (by kernel_rfl) (by kernel_rfl) ?tkq7 ?tky7 hHeld ?tkr7
  case tkh7 => (simp only [List.getElem?_toArray, List.getElem?_cons_succ, List.getElem?_cons_zero]; rfl)
  case tkq7 => exact fun _ _ _ h => h
  case tky7 => exact Or.inl ⟨by rfl, by intro wSw hSw; (try dsimp only at hSw); go_simp; try with_reducible rfl⟩
  try simp only [Act.put, List.setIfInBounds_toArray, List.set_cons_zero, List.set_cons_succ]
  refine wpAnyH_take (i := 7) (oi := ?tko8) (v := ?tkv8) ?tkh8 (by kernel_rfl) (by kernel_rfl) (by kernel_rfl) ?tkq8 ?tky8 hHeld ?tkr8
  case tkh8 => (simp only [List.getElem?_toArray, List.getElem?_cons_succ, List.getElem?_cons_zero]; rfl)
  case tkq8 => exact fun _ _ _ h => h
  case tky8 => exact Or.inl ⟨by rfl, by intro wSw hSw; (try dsimp only at hSw); go_simp; try with_reducible rfl⟩
  try simp only [Act.put, List.setIfInBounds_toArray, List.set_cons_zero, List.set_cons_succ]
  refine wpAnyH_ready (rs := [8]) (by kernel_rfl) (by simp) ?_
  refine AllReadyH.cons (o := ?tko9) ?tkh9 (fun Kt9 hKt9 => ?_) AllReadyH.nil
  case tkh9 => (simp only [List.getElem?_toArray, List.getElem?_cons_succ, List.getElem?_cons_zero]; rfl)
  go_simp
  (go_at_call 18; refine (HP.out _ hB2).mono ?_; rintro e w3 ⟨rfl, hb3⟩; have hB3 := hB2.trans (hb3.mono hB2.size))
  refine hKt9.out _ _ ?_ (fun hHt9 => ?_)
  · (exact wA_below hB3)
  clear hKt9 Kt9 hHeld
  have hHeld := hHt9
  clear hHt9
  try simp only [Act.put, List.setIfInBounds_toArray, List.set_cons_zero, List.set_cons_succ]
  refine wpAnyH_take (i := 9) (oi := ?tko10) (v := ?tkv10) ?tkh10 (by kernel_rfl) (by kernel_rfl) (by kernel_rfl) ?tkq10 ?tky10 hHeld ?tkr10
  case tkh10 => (simp only [List.getElem?_toArray, List.getElem?_cons_succ, List.getElem?_cons_zero]; rfl)
  case tkq10 => exact fun _ _ _ h => h
  case tky10 => exact Or.inl ⟨by rfl, by intro wSw hSw; (try dsimp only at hSw); go_simp; try with_reducible rfl⟩
  try simp only [Act.put, List.setIfInBounds_toArray, List.set_cons_zero, List.set_cons_succ]
  refine wpAnyH_take (i := 10) (oi := ?tko11) (v := ?tkv11) ?tkh11 (by kernel_rfl) (by kernel_rfl) (by kernel_rfl) ?tkq11 ?tky11 hHeld ?tkr11
  case tkh11 => (simp only [List.getElem?_toArray, List.getElem?_cons_succ, List.getElem?_cons_zero]; rfl)
  case tkq11 => exact fun _ _ _ h => h
  case tky11 => exact Or.inl ⟨by rfl, by intro wSw hSw; (try dsimp only at hSw); go_simp; try with_reducible rfl⟩
  try simp only [Act.put, List.setIfInBounds_toArray, List.set_cons_zero, List.set_cons_succ]
  refine wpAnyH_take (i := 11) (oi := ?tko12) (v := ?tkv12) ?tkh12 (by kernel_rfl) (by kernel_rfl) (by kernel_rfl) ?tkq12 ?tky12 hHeld ?tkr12
  case tkh12 => (simp only [List.getElem?_toArray, List.getElem?_cons_succ, List.getElem?_cons_zero]; rfl)
  case tkq12 => exact fun _ _ _ h => h
  case tky12 => exact Or.inl ⟨by rfl, by intro wSw hSw; (try dsimp only at hSw); go_simp; try with_reducible rfl⟩
  try simp only [Act.put, List.setIfInBounds_toArray, List.set_cons_zero, List.set_cons_succ]
  refine wpAnyH_take (i := 12) (oi := ?tko13) (v := ?tkv13) ?tkh13 (by kernel_rfl) (by kernel_rfl) (by kernel_rfl) ?tkq13 ?tky13 hHeld ?tkr13
  case tkh13 => (simp only [List.getElem?_toArray, List.getElem?_cons_succ, List.getElem?_cons_zero]; rfl)
  case tkq13 => exact fun _ _ _ h => h
  case tky13 => exact Or.inl ⟨by rfl, by intro wSw hSw; (try dsimp only at hSw); go_simp; try with_reducible rfl⟩
  try simp only [Act.put, List.setIfInBounds_toArray, List.set_cons_zero, List.set_cons_succ]
  refine wpAnyH_take (i := 14) (oi := ?tko14) (v := ?tkv14) ?tkh14 (by kernel_rfl) (by kernel_rfl) (by kernel_rfl) ?tkq14 ?tky14 hHeld ?tkr14
  case tkh14 => (simp only [List.getElem?_toArray, List.getElem?_cons_succ, List.getElem?_cons_zero]; rfl)
  case tkq14 => exact fun _ _ _ h => h
  case tky14 => exact Or.inl ⟨by rfl, by intro wSw hSw; (try dsimp only at hSw); go_simp; try with_reducible rfl⟩
  try simp only [Act.put, List.setIfInBounds_toArray, List.set_cons_zero, List.set_cons_succ]
  refine wpAnyH_ready (rs := [13]) (by kernel_rfl) (by simp) ?_
  refine AllReadyH.cons (o := ?tko15) ?tkh15 (fun Kt15 hKt15 => ?_) AllReadyH.nil
  case tkh15 => (simp only [List.getElem?_toArray, List.getElem?_cons_succ, List.getElem?_cons_zero]; rfl)
  go_simp
  (go_at_call 17; refine (HC.out _ hB3).mono ?_; rintro e w4 ⟨NC, kc, cc, EC, mc, dc, rfl, hTC, hb4⟩; have hB4 := hB3.trans (hb4.mono hB3.size))
  refine hKt15.out _ _ ?_ (fun hHt15 => ?_)
  · (exact wA_below hB4)
  clear hKt15 Kt15 hHeld
  have hHeld := hHt15
  clear hHt15
  try simp only [Act.put, List.setIfInBounds_toArray, List.set_cons_zero, List.set_cons_succ]
  refine wpAnyH_ready (rs := [15]) (by kernel_rfl) (by simp) ?_
  refine AllReadyH.cons (o := ?tko16) ?tkh16 (fun Kt16 hKt16 => ?_) AllReadyH.nil
  case tkh16 => (simp only [List.getElem?_toArray, List.getElem?_cons_succ, List.getElem?_cons_zero]; rfl)
  go_simp
  (go_at_call 24; refine (HF.out _ _ _ _ _ _ _ hTC hB4).mono ?_; rintro e w5 ⟨rfl, hb5⟩; have hB5 := hB4.trans (hb5.mono hB4.size))
  refine hKt16.out _ _ ?_ (fun hHt16 => ?_)
  · (exact wA_below hB5)
  clear hKt16 Kt16 hHeld
  have hHeld := hHt16
  clear hHt16
  try simp only [Act.put, List.setIfInBounds_toArray, List.set_cons_zero, List.set_cons_succ]
  refine wpAnyH_take (i := 16) (oi := ?tko17) (v := ?tkv17) ?tkh17 (by kernel_rfl) (by kernel_rfl) (by kernel_rfl) ?tkq17 ?tky17 hHeld ?tkr17
  case tkh17 => (simp only [List.getElem?_toArray, List.getElem?_cons_succ, List.getElem?_cons_zero]; rfl)
  case tkq17 => exact fun _ _ _ h => h
  case tky17 => exact Or.inl ⟨by rfl, by intro wSw hSw; (try dsimp only at hSw); go_simp; try with_reducible rfl⟩
  try simp only [Act.put, List.setIfInBounds_toArray, List.set_cons_zero, List.set_cons_succ]
  refine wpAnyH_take (i := 17) (oi := ?tko18) (v := ?tkv18) ?tkh18 (by kernel_rfl) (by kernel_rfl) (by kernel_rfl) ?tkq18 ?tky18 hHeld ?tkr18
  case tkh18 => (simp only [List.getElem?_toArray, List.getElem?_cons_succ, List.getElem?_cons_zero]; rfl)
  case tkq18 => exact fun _ _ _ h => h
  case tky18 => exact Or.inl ⟨by rfl, by intro wSw hSw; (try dsimp only at hSw); go_simp; try with_reducible rfl⟩
  try simp only [Act.put, List.setIfInBounds_toArray, List.set_cons_zero]
  refine wpAnyH_done (by kernel_rfl) ?_ _
  go_wp2
  go_ret
  exact ⟨rfl, wA_old hB5⟩
end Go.Proofs.Ytlkfdnbgplkiiaa.Trace
