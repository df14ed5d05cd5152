/-
  The walk of the law IvalClasses: a class says as much as a time. By an AI agent.
-/
import Derived.Test.YtlcijipkdopllaaDoorIvalSpan
import Derived.Test.YtlcijipkdopllaaDoorIvalMath
import Derived.Test.YtlcijipkdopllaaDoorSkips
import Derived.Deep.RegionHeld3
namespace Go.Proofs.YtlcijipkdopllaaDoor.Ival
open Go.RowKit Go.Proofs.YtlcijipkdopllaaDoor.Itoa

theorem held_keep {w w1 w2 : World} {g : Nat} {x y : Value} (hb : Below w1.heap.size w1 w2) (h0 : w1.cell? ⟨g, 0, none⟩ = some x) (h1 : w1.cell? ⟨g, 1, none⟩ = some y) (hT : Tab10 w1) (hB : Below w.heap.size w w1) :
    w2.cell? ⟨g, 0, none⟩ = some x ∧ w2.cell? ⟨g, 1, none⟩ = some y ∧ Tab10 w2 ∧ Below w.heap.size w w2 :=
  ⟨keep_cell hb h0, keep_cell hb h1, hT.later hb, hB.trans (hb.mono hB.size)⟩
theorem span_may (l more : Int) (op : Bool) (h0 : 0 ≤ l) (h1 : l ≤ 9999) (h2 : 0 ≤ more) : mayS l (if op = true then -1 else min 9999 (l + more)) = true := by
  unfold mayS
  rw [decide_eq_true_iff]
  split <;> omega

set_option maxHeartbeats 4000000 in
theorem lawClasses (lo more : Int) (op : Bool) (d e : Nat) (w : World) (h1 : 0 ≤ lo ∧ lo ≤ 65535) (h2 : 0 ≤ more ∧ more ≤ 65535) (hd : d < 18446744073709551616) (he : e < 18446744073709551616) (hT : Tab10 w) :
    Calls Tryd.prog 4 #[.int .u16 lo, .int .u16 more, .bool op, .int .u64 d, .int .u64 e] w fun e w' => e = .returned (.bool true) ∧ Below w.heap.size w w' := by
  have hS := lawSpan lo more op w h1 h2
  have hmay := span_may (lo % 10000) more op (by omega) (by omega) h2.1
  obtain ⟨L, hL⟩ : ∃ L, lo % 10000 = L := ⟨_, rfl⟩
  rw [hL] at hS hmay
  obtain ⟨H, hH⟩ : ∃ H, (if op = true then -1 else min 9999 (L + more)) = H := ⟨_, rfl⟩
  rw [hH] at hS hmay
  clear hL hH
  have hC1 := fun W => progClass L H d W hd
  have hM := fun W => progMay L H W
  rw [hmay] at hM
  have hI1 := fun W => progIn L H (classS L H d) W
  rw [class_in d hmay] at hI1
  have hH1 := fun W => progHas L H d W hd
  have hW := fun W => progWide L H W
  obtain ⟨hb1, hb2⟩ := class_bounds d hmay
  have hwl := wide_le L H
  obtain ⟨b1, hbe1⟩ : ∃ b, hasS L H d = b := ⟨_, rfl⟩
  obtain ⟨v, hv⟩ : ∃ v, wideS L H = v := ⟨_, rfl⟩
  have hLt := fun (h0 : 0 ≤ classS L H d) W => progLater L H (classS L H d) e W he
  have hle := fun (h0 : 0 ≤ classS L H d) => class_later d e hmay h0
  obtain ⟨cc, hcc⟩ : ∃ c, classS L H d = c := ⟨_, rfl⟩
  rw [hbe1] at hI1 hH1
  rw [hv] at hW hb2 hwl
  rw [hcc] at hC1 hI1 hb1 hb2 hLt hle
  have e1 : decide (v ≤ cc) = false := by simp; omega
  have e2 : decide (cc < -1) = false := by simp; omega
  have HC1 := Lib.hid hC1
  have HM := Lib.hid hM
  have HI1 := Lib.hid hI1
  have HH1 := Lib.hid hH1
  have HW := Lib.hid hW
  have HLT := Lib.hid hLt
  have HLE := Lib.hid hle
  clear hC1 hM hI1 hH1 hW hLt hle hbe1 hcc hv
  have HMAY := Lib.hid hmay
  have HS := Lib.hid hS
  clear hS hmay h1 h2
  go_enter Tryd.func4, Tryd.ntmps4
  go_wp2_with fail
  refine HS.out.mono ?_
  rintro e w1 ⟨rfl, hb⟩
  have hBa := hb.alloc hb.size (.cells #[.int .i64 L, .int .i64 H] 23)
  have hTa := hT.later hBa
  clear hb
  go_wp2_with fail
  refine (HC1.out _).mono ?_
  rintro e w2 ⟨rfl, hb⟩
  have hc0 := box0 hb
  have hc1 := box1 hb
  have hT0 := hTa.later hb
  have hB0 := hBa.trans (hb.mono hBa.size)
  clear hb hTa hBa
  go_wp2_with fail
  go_region_held3 (fun w' => w'.cell? ⟨w1.heap.size, 0, none⟩ = some (.int .i64 L) ∧ w'.cell? ⟨w1.heap.size, 1, none⟩ = some (.int .i64 H) ∧ Tab10 w' ∧ Below w.heap.size w w')
    (first
      | exact ⟨hc0, hc1, hT0, hB0⟩
      | exact ⟨hc0, hc1, hT0, hB0.drew⟩
      | (go_split_ands; exact held_keep hb (by assumption) (by assumption) (by assumption) (by assumption))
      | fail)
    (first
      | (go_at_call 7; with_reducible (refine (HM.out _).mono ?_); rintro e w' ⟨rfl, hb⟩)
      | (go_at_call 17; with_reducible (refine (HI1.out _).mono ?_); rintro e w' ⟨rfl, hb⟩)
      | (go_at_call 9; with_reducible (refine (HH1.out _).mono ?_); rintro e w' ⟨rfl, hb⟩)
      | (go_at_call 13; with_reducible (refine (HW.out _).mono ?_); rintro e w' ⟨rfl, hb⟩))
  obtain ⟨hd0, hd1, hT1, hB1⟩ : w'.cell? ⟨w1.heap.size, 0, none⟩ = some (.int .i64 L) ∧ w'.cell? ⟨w1.heap.size, 1, none⟩ = some (.int .i64 H) ∧ Tab10 w' ∧ Below w.heap.size w w' := by
    go_split_ands
    exact ⟨by assumption, by assumption, by assumption, by assumption⟩
  generalize w' = w3 at *
  clear hc0 hc1 hT0 hB0 e1 e2 hwl hb2
  by_cases hov : d + e < 18446744073709551616
  · obtain ⟨q, hq⟩ : ∃ q, d + e = q := ⟨_, rfl⟩
    have hC2 := fun W => progClass L H q W (by omega)
    have hI2 := fun W => progIn L H (classS L H q) W
    rw [class_in q HMAY.out] at hI2
    have hH2 := fun W => progHas L H q W (by omega)
    have hle := HLE.out
    rw [hq] at hle
    have e3 : IntKind.u64.wrap ((d : Int) + (e : Int)) = (q : Int) := by rw [IntKind.wrap_u64]; omega
    have e4 : ¬ (q : Int) < (d : Int) := by omega
    obtain ⟨cs, hcs⟩ : ∃ c, classS L H q = c := ⟨_, rfl⟩
    obtain ⟨b2, hbe2⟩ : ∃ b, hasS L H q = b := ⟨_, rfl⟩
    rw [hcs] at hC2 hI2 hle
    rw [hbe2] at hI2 hH2
    have HC2 := Lib.hid hC2
    have HI2 := Lib.hid hI2
    have HH2 := Lib.hid hH2
    clear hC2 hI2 hH2 hcs hbe2 hq hov
    by_cases h0 : 0 ≤ cc
    · have hL2 := HLT.out h0
      rw [hle h0] at hL2
      have HL2 := Lib.hid hL2
      have e5 : decide (cc < 0) = false := by simp; omega
      clear hL2 hle
      go_wp2_with fail
      go_region_held3 (fun w' => w'.cell? ⟨w1.heap.size, 0, none⟩ = some (.int .i64 L) ∧ w'.cell? ⟨w1.heap.size, 1, none⟩ = some (.int .i64 H) ∧ Tab10 w' ∧ Below w.heap.size w w')
        (first
          | exact ⟨hd0, hd1, hT1, hB1⟩
          | exact ⟨hd0, hd1, hT1, hB1.drew⟩
          | (go_split_ands; exact held_keep hb (by assumption) (by assumption) (by assumption) (by assumption))
          | fail)
        (first
          | (go_at_call 19; with_reducible (refine (HL2.out _).mono ?_); rintro e w' ⟨rfl, hb⟩)
          | (go_at_call 15; with_reducible (refine (HC2.out _).mono ?_); rintro e w' ⟨rfl, hb⟩)
          | (go_at_call 17; with_reducible (refine (HI2.out _).mono ?_); rintro e w' ⟨rfl, hb⟩)
          | (go_at_call 9; with_reducible (refine (HH2.out _).mono ?_); rintro e w' ⟨rfl, hb⟩)
          | (go_at_call 21; go_split_ands; refine (awake _ (by assumption)).mono ?_; rintro e w' ⟨rfl, hb⟩))
      go_split_ands
      go_wp2
      go_ret
      exact ⟨rfl, by assumption⟩
    · have e5 : decide (cc < 0) = true := by simp; omega
      clear hle h0 hb1
      go_wp2_with fail
      refine wp_region_held_drew (S := (fun w' => w'.cell? ⟨w1.heap.size, 0, none⟩ = some (.int .i64 L) ∧ w'.cell? ⟨w1.heap.size, 1, none⟩ = some (.int .i64 H) ∧ Tab10 w' ∧ Below w.heap.size w w')) (by kernel_rfl) ⟨hd0, hd1, hT1, hB1.drew⟩ (fun hHeld => ?_)
      refine wpAnyH_take (i := 0) (oi := ?oi0) (v := ?v0) ?hi0 (by kernel_rfl) (by kernel_rfl) (by kernel_rfl) ?hQ0 ?hy0 hHeld ?rest0
      case hi0 => simp only [List.getElem?_toArray, List.getElem?_cons_zero]; rfl
      case hQ0 => exact fun _ _ _ h => h
      case hy0 => exact Or.inl ⟨by rfl, by intro w hSw; (try dsimp only at hSw); go_simp; try with_reducible rfl⟩
      try simp only [Act.put, List.setIfInBounds_toArray, List.set_cons_zero, List.set_cons_succ]
      refine wpAnyH_take (i := 1) (oi := ?oi1) (v := ?v1) ?hi1 (by kernel_rfl) (by kernel_rfl) (by kernel_rfl) ?hQ1 ?hy1 hHeld ?rest1
      case hi1 => simp only [List.getElem?_toArray, List.getElem?_cons_succ, List.getElem?_cons_zero]; rfl
      case hQ1 => exact fun _ _ _ h => h
      case hy1 => exact Or.inl ⟨by rfl, by intro w hSw; (try dsimp only at hSw); go_simp; try with_reducible rfl⟩
      try simp only [Act.put, List.setIfInBounds_toArray, List.set_cons_zero, List.set_cons_succ]
      refine wpAnyH_take (i := 2) (oi := ?oi2) (v := ?v2) ?hi2 (by kernel_rfl) (by kernel_rfl) (by kernel_rfl) ?hQ2 ?hy2 hHeld ?rest2
      case hi2 => simp only [List.getElem?_toArray, List.getElem?_cons_succ, List.getElem?_cons_zero]; rfl
      case hQ2 => exact fun _ _ _ h => h
      case hy2 => exact Or.inl ⟨by rfl, by intro w hSw; (try dsimp only at hSw); go_simp; try with_reducible rfl⟩
      try simp only [Act.put, List.setIfInBounds_toArray, List.set_cons_zero, List.set_cons_succ]
      refine Skips.skips (by kernel_rfl) (fun _ _ _ _ _ h => h) hHeld [3, 4, 5, 6, 7, 8, 9, 10, 11, 12] _ 20 _ _ (by kernel_rfl) ?hk ?rest
      case hk => kernel_rfl
      simp only [Skips.skipAct, Skips.skipListed, List.getElem?_toArray, List.getElem?_cons_succ, List.getElem?_cons_zero, Act.put, List.setIfInBounds_toArray, List.set_cons_zero, List.set_cons_succ]
      refine wpAnyH_take (i := 13) (oi := ?oi13) (v := ?v13) ?hi13 (by kernel_rfl) (by kernel_rfl) (by kernel_rfl) ?hQ13 ?hy13 hHeld ?rest13
      case hi13 => simp only [List.getElem?_toArray, List.getElem?_cons_succ, List.getElem?_cons_zero]; rfl
      case hQ13 => exact fun _ _ _ h => h
      case hy13 => exact Or.inl ⟨by rfl, by intro w hSw; (try dsimp only at hSw); go_simp; try with_reducible rfl⟩
      try simp only [Act.put, List.setIfInBounds_toArray, List.set_cons_zero, List.set_cons_succ]
      refine wpAnyH_take (i := 14) (oi := ?oi14) (v := ?v14) ?hi14 (by kernel_rfl) (by kernel_rfl) (by kernel_rfl) ?hQ14 ?hy14 hHeld ?rest14
      case hi14 => simp only [List.getElem?_toArray, List.getElem?_cons_succ, List.getElem?_cons_zero]; rfl
      case hQ14 => exact fun _ _ _ h => h
      case hy14 => exact Or.inl ⟨by rfl, by intro w hSw; (try dsimp only at hSw); go_simp; try with_reducible rfl⟩
      try simp only [Act.put, List.setIfInBounds_toArray, List.set_cons_zero, List.set_cons_succ]
      refine wpAnyH_take (i := 15) (oi := ?oi15) (v := ?v15) ?hi15 (by kernel_rfl) (by kernel_rfl) (by kernel_rfl) ?hQ15 ?hy15 hHeld ?rest15
      case hi15 => simp only [List.getElem?_toArray, List.getElem?_cons_succ, List.getElem?_cons_zero]; rfl
      case hQ15 => exact fun _ _ _ h => h
      case hy15 => exact Or.inl ⟨by rfl, by intro w hSw; (try dsimp only at hSw); go_simp; try with_reducible rfl⟩
      try simp only [Act.put, List.setIfInBounds_toArray, List.set_cons_zero, List.set_cons_succ]
      refine wpAnyH_take (i := 16) (oi := ?oi16) (v := ?v16) ?hi16 (by kernel_rfl) (by kernel_rfl) (by kernel_rfl) ?hQ16 ?hy16 hHeld ?rest16
      case hi16 => simp only [List.getElem?_toArray, List.getElem?_cons_succ, List.getElem?_cons_zero]; rfl
      case hQ16 => exact fun _ _ _ h => h
      case hy16 => exact Or.inl ⟨by rfl, by intro w hSw; (try dsimp only at hSw); go_simp; try with_reducible rfl⟩
      try simp only [Act.put, List.setIfInBounds_toArray, List.set_cons_zero, List.set_cons_succ]
      refine wpAnyH_take (i := 17) (oi := ?oi17) (v := ?v17) ?hi17 (by kernel_rfl) (by kernel_rfl) (by kernel_rfl) ?hQ17 ?hy17 hHeld ?rest17
      case hi17 => simp only [List.getElem?_toArray, List.getElem?_cons_succ, List.getElem?_cons_zero]; rfl
      case hQ17 => exact fun _ _ _ h => h
      case hy17 => exact Or.inl ⟨by rfl, by intro w hSw; (try dsimp only at hSw); go_simp; try with_reducible rfl⟩
      try simp only [Act.put, List.setIfInBounds_toArray, List.set_cons_zero, List.set_cons_succ]
      refine wpAnyH_take (i := 18) (oi := ?oi18) (v := ?v18) ?hi18 (by kernel_rfl) (by kernel_rfl) (by kernel_rfl) ?hQ18 ?hy18 hHeld ?rest18
      case hi18 => simp only [List.getElem?_toArray, List.getElem?_cons_succ, List.getElem?_cons_zero]; rfl
      case hQ18 => exact fun _ _ _ h => h
      case hy18 => exact Or.inl ⟨by rfl, by intro w hSw; (try dsimp only at hSw); go_simp; try with_reducible rfl⟩
      try simp only [Act.put, List.setIfInBounds_toArray, List.set_cons_zero, List.set_cons_succ]
      refine wpAnyH_take (i := 19) (oi := ?oi19) (v := ?v19) ?hi19 (by kernel_rfl) (by kernel_rfl) (by kernel_rfl) ?hQ19 ?hy19 hHeld ?rest19
      case hi19 => simp only [List.getElem?_toArray, List.getElem?_cons_succ, List.getElem?_cons_zero]; rfl
      case hQ19 => exact fun _ _ _ h => h
      case hy19 => exact Or.inl ⟨by rfl, by intro w hSw; (try dsimp only at hSw); go_simp; try with_reducible rfl⟩
      try simp only [Act.put, List.setIfInBounds_toArray, List.set_cons_zero, List.set_cons_succ]
      refine wpAnyH_take (i := 22) (oi := ?oi22) (v := ?v22) ?hi22 (by kernel_rfl) (by kernel_rfl) (by kernel_rfl) ?hQ22 ?hy22 hHeld ?rest22
      case hi22 => simp only [List.getElem?_toArray, List.getElem?_cons_succ, List.getElem?_cons_zero]; rfl
      case hQ22 => exact fun _ _ _ h => h
      case hy22 => exact Or.inl ⟨by rfl, by intro w hSw; (try dsimp only at hSw); go_simp; try with_reducible rfl⟩
      try simp only [Act.put, List.setIfInBounds_toArray, List.set_cons_zero, List.set_cons_succ]
      refine wpAnyH_take (i := 23) (oi := ?oi23) (v := ?v23) ?hi23 (by kernel_rfl) (by kernel_rfl) (by kernel_rfl) ?hQ23 ?hy23 hHeld ?rest23
      case hi23 => simp only [List.getElem?_toArray, List.getElem?_cons_succ, List.getElem?_cons_zero]; rfl
      case hQ23 => exact fun _ _ _ h => h
      case hy23 => exact Or.inl ⟨by rfl, by intro w hSw; (try dsimp only at hSw); go_simp; try with_reducible rfl⟩
      try simp only [Act.put, List.setIfInBounds_toArray, List.set_cons_zero, List.set_cons_succ]
      refine wpAnyH_take (i := 24) (oi := ?oi24) (v := ?v24) ?hi24 (by kernel_rfl) (by kernel_rfl) (by kernel_rfl) ?hQ24 ?hy24 hHeld ?rest24
      case hi24 => simp only [List.getElem?_toArray, List.getElem?_cons_succ, List.getElem?_cons_zero]; rfl
      case hQ24 => exact fun _ _ _ h => h
      case hy24 => exact Or.inl ⟨by rfl, by intro w hSw; (try dsimp only at hSw); go_simp; try with_reducible rfl⟩
      try simp only [Act.put, List.setIfInBounds_toArray, List.set_cons_zero, List.set_cons_succ]
      refine wpAnyH_take (i := 25) (oi := ?oi25) (v := ?v25) ?hi25 (by kernel_rfl) (by kernel_rfl) (by kernel_rfl) ?hQ25 ?hy25 hHeld ?rest25
      case hi25 => simp only [List.getElem?_toArray, List.getElem?_cons_succ, List.getElem?_cons_zero]; rfl
      case hQ25 => exact fun _ _ _ h => h
      case hy25 => exact Or.inl ⟨by rfl, by intro w hSw; (try dsimp only at hSw); go_simp; try with_reducible rfl⟩
      try simp only [Act.put, List.setIfInBounds_toArray, List.set_cons_zero, List.set_cons_succ]
      refine wpAnyH_ready (rs := [20]) (by kernel_rfl) (by simp) ?_
      refine AllReadyH.cons (o := ?oi20) ?hi20 (fun K hK => ?_) AllReadyH.nil
      case hi20 => simp only [List.getElem?_toArray, List.getElem?_cons_succ, List.getElem?_cons_zero]; rfl
      go_simp
      go_at_call 15; with_reducible (refine (HC2.out _).mono ?_); rintro e w' ⟨rfl, hb⟩
      refine hK.out _ _ ?_ (fun hHeld' => ?_)
      · (go_split_ands; exact held_keep hb (by assumption) (by assumption) (by assumption) (by assumption))
      clear hK K hHeld hb
      have hHeld := hHeld'
      clear hHeld'
      try simp only [Act.put, List.setIfInBounds_toArray, List.set_cons_zero, List.set_cons_succ]
      refine wpAnyH_ready (rs := [21]) (by kernel_rfl) (by simp) ?_
      refine AllReadyH.cons (o := ?oi21) ?hi21 (fun K hK => ?_) AllReadyH.nil
      case hi21 => simp only [List.getElem?_toArray, List.getElem?_cons_succ, List.getElem?_cons_zero]; rfl
      go_simp
      go_at_call 17; with_reducible (refine (HI2.out _).mono ?_); rintro e w' ⟨rfl, hb⟩
      refine hK.out _ _ ?_ (fun hHeld' => ?_)
      · (go_split_ands; exact held_keep hb (by assumption) (by assumption) (by assumption) (by assumption))
      clear hK K hHeld hb
      have hHeld := hHeld'
      clear hHeld'
      try simp only [Act.put, List.setIfInBounds_toArray, List.set_cons_zero, List.set_cons_succ]
      refine wpAnyH_ready (rs := [26]) (by kernel_rfl) (by simp) ?_
      refine AllReadyH.cons (o := ?oi26) ?hi26 (fun K hK => ?_) AllReadyH.nil
      case hi26 => simp only [List.getElem?_toArray, List.getElem?_cons_succ, List.getElem?_cons_zero]; rfl
      go_simp
      go_at_call 9; with_reducible (refine (HH2.out _).mono ?_); rintro e w' ⟨rfl, hb⟩
      refine hK.out _ _ ?_ (fun hHeld' => ?_)
      · (go_split_ands; exact held_keep hb (by assumption) (by assumption) (by assumption) (by assumption))
      clear hK K hHeld hb
      have hHeld := hHeld'
      clear hHeld'
      try simp only [Act.put, List.setIfInBounds_toArray, List.set_cons_zero, List.set_cons_succ]
      refine wpAnyH_take (i := 27) (oi := ?oi27) (v := ?v27) ?hi27 (by kernel_rfl) (by kernel_rfl) (by kernel_rfl) ?hQ27 ?hy27 hHeld ?rest27
      case hi27 => simp only [List.getElem?_toArray, List.getElem?_cons_succ, List.getElem?_cons_zero]; rfl
      case hQ27 => exact fun _ _ _ h => h
      case hy27 => exact Or.inl ⟨by rfl, by intro w hSw; (try dsimp only at hSw); go_simp; try with_reducible rfl⟩
      try simp only [Act.put, List.setIfInBounds_toArray, List.set_cons_zero, List.set_cons_succ]
      refine wpAnyH_take (i := 28) (oi := ?oi28) (v := ?v28) ?hi28 (by kernel_rfl) (by kernel_rfl) (by kernel_rfl) ?hQ28 ?hy28 hHeld ?rest28
      case hi28 => simp only [List.getElem?_toArray, List.getElem?_cons_succ, List.getElem?_cons_zero]; rfl
      case hQ28 => exact fun _ _ _ h => h
      case hy28 => exact Or.inl ⟨by rfl, by intro w hSw; (try dsimp only at hSw); go_simp; try with_reducible rfl⟩
      try simp only [Act.put, List.setIfInBounds_toArray, List.set_cons_zero, List.set_cons_succ]
      refine wpAnyH_take (i := 29) (oi := ?oi29) (v := ?v29) ?hi29 (by kernel_rfl) (by kernel_rfl) (by kernel_rfl) ?hQ29 ?hy29 hHeld ?rest29
      case hi29 => simp only [List.getElem?_toArray, List.getElem?_cons_succ, List.getElem?_cons_zero]; rfl
      case hQ29 => exact fun _ _ _ h => h
      case hy29 => exact Or.inl ⟨by rfl, by intro w hSw; (try dsimp only at hSw); go_simp; try with_reducible rfl⟩
      try simp only [Act.put, List.setIfInBounds_toArray, List.set_cons_zero, List.set_cons_succ]
      refine wpAnyH_ready (rs := [30]) (by kernel_rfl) (by simp) ?_
      refine AllReadyH.cons (o := ?oi30) ?hi30 (fun K hK => ?_) AllReadyH.nil
      case hi30 => simp only [List.getElem?_toArray, List.getElem?_cons_succ, List.getElem?_cons_zero]; rfl
      go_simp
      go_at_call 21; go_split_ands; refine (awake _ (by assumption)).mono ?_; rintro e w' ⟨rfl, hb⟩
      refine hK.out _ _ ?_ (fun hHeld' => ?_)
      · (go_split_ands; exact held_keep hb (by assumption) (by assumption) (by assumption) (by assumption))
      clear hK K hb
      have hHeld := hHeld'
      clear hHeld'
      try simp only [Act.put, List.setIfInBounds_toArray, List.set_cons_zero, List.set_cons_succ]
      refine wpAnyH_take (i := 31) (oi := ?oi31) (v := ?v31) ?hi31 (by kernel_rfl) (by kernel_rfl) (by kernel_rfl) ?hQ31 ?hy31 hHeld ?rest31
      case hi31 => simp only [List.getElem?_toArray, List.getElem?_cons_succ, List.getElem?_cons_zero]; rfl
      case hQ31 => exact fun _ _ _ h => h
      case hy31 => exact Or.inl ⟨by rfl, by intro w hSw; (try dsimp only at hSw); go_simp; try with_reducible rfl⟩
      try simp only [Act.put, List.setIfInBounds_toArray, List.set_cons_zero, List.set_cons_succ]
      refine wpAnyH_take (i := 32) (oi := ?oi32) (v := ?v32) ?hi32 (by kernel_rfl) (by kernel_rfl) (by kernel_rfl) ?hQ32 ?hy32 hHeld ?rest32
      case hi32 => simp only [List.getElem?_toArray, List.getElem?_cons_succ, List.getElem?_cons_zero]; rfl
      case hQ32 => exact fun _ _ _ h => h
      case hy32 => exact Or.inl ⟨by rfl, by intro w hSw; (try dsimp only at hSw); go_simp; try with_reducible rfl⟩
      try simp only [Act.put, List.setIfInBounds_toArray, List.set_cons_zero, List.set_cons_succ]
      refine wpAnyH_done (by kernel_rfl) ?_ _
      go_split_ands
      go_wp2
      go_ret
      exact ⟨rfl, by assumption⟩
  · obtain ⟨q, hq⟩ : ∃ q, d + e - 18446744073709551616 = q := ⟨_, rfl⟩
    have e3 : IntKind.u64.wrap ((d : Int) + (e : Int)) = (q : Int) := by rw [IntKind.wrap_u64]; omega
    have e4 : (q : Int) < (d : Int) := by omega
    have HB1 := Lib.hid hB1
    clear hq hov hB1
    go_wp2_with (go_at_call 21; refine (awake _ hT1).mono ?_; rintro e w4 ⟨rfl, hb⟩)
    go_ret
    exact ⟨rfl, HB1.out.trans (hb.mono HB1.out.size)⟩
end Go.Proofs.YtlcijipkdopllaaDoor.Ival
