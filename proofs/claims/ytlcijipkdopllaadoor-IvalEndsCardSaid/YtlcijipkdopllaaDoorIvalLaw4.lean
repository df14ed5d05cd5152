/-
  The walk of the law IvalEnds. By an AI agent.
-/
import Derived.Test.YtlcijipkdopllaaDoorIvalSpan
import Derived.Deep.RegionHeld3
namespace Go.Proofs.YtlcijipkdopllaaDoor.Ival
open Go.RowKit Go.Proofs.YtlcijipkdopllaaDoor.Itoa

theorem ends_facts {l h : Nat} (h1 : l ≤ h) (h2 : h ≤ 9999) : hasS l h l = true ∧ hasS l h h = true ∧ hasS l h (h + 1) = false ∧ (0 < l → hasS l h (l - 1) = false) ∧ hasS l (-1) 18446744073709551615 = true ∧
    wideS l h = (h : Int) + 1 ∧ wideS l (-1) = (l : Int) + 1 ∧ mayS ((h : Int) + 1) h = false ∧ mayS 0 10000 = false ∧ mayS l (-2) = false := by
  have m1 : mayS l h = true := by unfold mayS; rw [decide_eq_true_iff]; omega
  have m2 : mayS l (-1) = true := by unfold mayS; rw [decide_eq_true_iff]; omega
  refine ⟨?_, ?_, ?_, ?_, ?_, ?_, ?_, ?_, by decide, ?_⟩
  · unfold hasS; rw [m1, Bool.true_and, decide_eq_true_iff]; omega
  · unfold hasS; rw [m1, Bool.true_and, decide_eq_true_iff]; omega
  · unfold hasS; rw [m1, Bool.true_and, decide_eq_false_iff_not]; omega
  · intro h0; unfold hasS; rw [m1, Bool.true_and, decide_eq_false_iff_not]; omega
  · unfold hasS; rw [m2, Bool.true_and, decide_eq_true_iff]; omega
  · unfold wideS; rw [if_pos m1, if_neg (by omega)]
  · unfold wideS; rw [if_pos m2, if_pos rfl]
  · unfold mayS; rw [decide_eq_false_iff_not]; omega
  · unfold mayS; rw [decide_eq_false_iff_not]; omega

theorem both_keep {w w1 w2 : World} {g k l h : Nat} (hb : Below w1.heap.size w1 w2)
    (h0 : w1.cell? ⟨g, 0, none⟩ = some (.int .i64 (l : Int))) (h1 : w1.cell? ⟨g, 1, none⟩ = some (.int .i64 (h : Int))) (h2 : w1.cell? ⟨k, 0, none⟩ = some (.int .i64 (l : Int))) (h3 : w1.cell? ⟨k, 1, none⟩ = some (.int .i64 (-1))) (hT : Tab10 w1) (hB : Below w.heap.size w w1) :
    w2.cell? ⟨g, 0, none⟩ = some (.int .i64 (l : Int)) ∧ w2.cell? ⟨g, 1, none⟩ = some (.int .i64 (h : Int)) ∧ w2.cell? ⟨k, 0, none⟩ = some (.int .i64 (l : Int)) ∧ w2.cell? ⟨k, 1, none⟩ = some (.int .i64 (-1)) ∧ Tab10 w2 ∧ Below w.heap.size w w2 :=
  ⟨keep_cell hb h0, keep_cell hb h1, keep_cell hb h2, keep_cell hb h3, hT.later hb, hB.trans (hb.mono hB.size)⟩

set_option maxHeartbeats 4000000 in
theorem lawEnds (lo more : Int) (w : World) (h1 : 0 ≤ lo ∧ lo ≤ 65535) (h2 : 0 ≤ more ∧ more ≤ 65535) (hT : Tab10 w) :
    Calls Tryd.prog 6 #[.int .u16 lo, .int .u16 more] w fun e w' => e = .returned (.bool true) ∧ Below w.heap.size w w' := by
  have hS := fun W => lawSpan lo more false W h1 h2
  have hS2 := fun W => lawSpan lo 0 true W h1 (by omega)
  rw [if_neg (by decide)] at hS
  rw [if_pos rfl] at hS2
  obtain ⟨l, hl⟩ : ∃ l : Nat, lo % 10000 = l := Int.eq_ofNat_of_zero_le (by omega)
  obtain ⟨h, hh⟩ : ∃ h : Nat, min 9999 (lo % 10000 + more) = h := Int.eq_ofNat_of_zero_le (by omega)
  have hlh : l ≤ h ∧ h ≤ 9999 := by omega
  rw [hh] at hS
  rw [hl] at hS hS2
  obtain ⟨f1, f2, f3, f4, f5, f6, f7, f8, f9, f10⟩ := ends_facts hlh.1 hlh.2
  have hA1 := fun W => progHas l h l W (by omega)
  have hA2 := fun W => progHas l h h W (by omega)
  have hA3 := fun W => progHas l h (h + 1) W (by omega)
  have hA4 := fun W (h0 : 0 < l) => progHas l h (l - 1) W (by omega)
  have hA5 := fun W => progHas l (-1) 18446744073709551615 W (by omega)
  have hW1 := fun W => progWide l h W
  have hW2 := fun W => progWide l (-1) W
  have hM1 := fun W => progMay ((h : Int) + 1) h W
  have hM2 := fun W => progMay 0 10000 W
  have hM3 := fun W => progMay l (-2) W
  rw [f1] at hA1
  rw [f2] at hA2
  rw [f3] at hA3
  rw [f5] at hA5
  rw [f6] at hW1
  rw [f7] at hW2
  rw [f8] at hM1
  rw [f9] at hM2
  rw [f10] at hM3
  obtain ⟨q, hq⟩ : ∃ q, h + 1 = q := ⟨_, rfl⟩
  have e1 : IntKind.u64.wrap (l : Int) = (l : Int) := by rw [IntKind.wrap_u64]; omega
  have e2 : IntKind.u64.wrap (h : Int) = (h : Int) := by rw [IntKind.wrap_u64]; omega
  have e3 : IntKind.u64.wrap ((h : Int) + 1) = (q : Int) := by rw [IntKind.wrap_u64]; omega
  have e4 : IntKind.i64.wrap ((h : Int) + 1) = (h : Int) + 1 := IntWalk.i64_in _ (by omega)
  have e5 : IntKind.i64.wrap ((l : Int) + 1) = (l : Int) + 1 := IntWalk.i64_in _ (by omega)
  rw [hq] at hA3
  have HS := Lib.hid hS
  have HS2 := Lib.hid hS2
  have HA1 := Lib.hid hA1
  have HA2 := Lib.hid hA2
  have HA3 := Lib.hid hA3
  have HA5 := Lib.hid hA5
  have HW1 := Lib.hid hW1
  have HW2 := Lib.hid hW2
  have HM1 := Lib.hid hM1
  have HM2 := Lib.hid hM2
  have HM3 := Lib.hid hM3
  clear hS hS2 hA1 hA2 hA3 hA5 hW1 hW2 hM1 hM2 hM3 f1 f2 f3 f5 f6 f7 f8 f9 f10 hq hl hh h1 h2
  by_cases h0 : 0 < l
  · obtain ⟨p, hp⟩ : ∃ p, l - 1 = p := ⟨_, rfl⟩
    have hA4' := fun W => hA4 W h0
    rw [f4 h0, hp] at hA4'
    have HA4 := Lib.hid hA4'
    have e6 : IntKind.u64.wrap ((l : Int) - 1) = (p : Int) := by rw [IntKind.wrap_u64]; omega
    have h0' : (0 : Int) < (l : Int) := by omega
    clear hA4 hA4' f4 hp hlh
    go_enter Tryd.func6, Tryd.ntmps6
    go_wp2_with fail
    refine (HS.out _).mono ?_
    rintro e w1 ⟨rfl, hb⟩
    have hBa := hb.alloc hb.size (.cells #[.int .i64 l, .int .i64 h] 23)
    have hTa := hT.later hBa
    clear hb
    go_wp2_with fail
    refine (HS2.out _).mono ?_
    rintro e w2 ⟨rfl, hb⟩
    have hBb := hBa.trans (hb.mono hBa.size)
    have hB := hBb.alloc hBb.size (.cells #[.int .i64 l, .int .i64 (-1)] 23)
    have hTb := hTa.later hb
    have hn := (Below.refl _ w2).alloc (Nat.le_refl _) (.cells #[.int .i64 l, .int .i64 (-1)] 23)
    have hT0 := hTb.later hn
    have c0 := keep_cell hn (box0 hb)
    have c1 := keep_cell hn (box1 hb)
    have c2 : (w2.alloc (.cells #[.int .i64 l, .int .i64 (-1)] 23)).cell? ⟨w2.heap.size, 0, none⟩ = some (.int .i64 (l : Int)) := by rw [cell_of_row _ w2.heap.size 0 _ _ (0, 0) (heap_alloc_new w2 _)]; rfl
    have c3 : (w2.alloc (.cells #[.int .i64 l, .int .i64 (-1)] 23)).cell? ⟨w2.heap.size, 1, none⟩ = some (.int .i64 (-1)) := by rw [cell_of_row _ w2.heap.size 1 _ _ (0, 0) (heap_alloc_new w2 _)]; rfl
    clear hb hTa hTb hBa hBb hn
    go_wp2_with fail
    generalize w2.alloc (.cells #[.int .i64 l, .int .i64 (-1)] 23) = w3 at *
    refine (HA1.out _).mono ?_
    rintro e w4 ⟨rfl, hb⟩
    obtain ⟨c0, c1, c2, c3, hT0, hB⟩ := both_keep hb c0 c1 c2 c3 hT0 hB
    clear hb
    go_wp2_with fail
    refine (HA2.out _).mono ?_
    rintro e w5 ⟨rfl, hb⟩
    obtain ⟨c0, c1, c2, c3, hT0, hB⟩ := both_keep hb c0 c1 c2 c3 hT0 hB
    clear hb
    go_wp2_with fail
    refine (HA3.out _).mono ?_
    rintro e w6 ⟨rfl, hb⟩
    obtain ⟨c0, c1, c2, c3, hT0, hB⟩ := both_keep hb c0 c1 c2 c3 hT0 hB
    clear hb
    go_wp2_with fail
    refine (HA4.out _).mono ?_
    rintro e w7 ⟨rfl, hb⟩
    obtain ⟨c0, c1, c2, c3, hT0, hB⟩ := both_keep hb c0 c1 c2 c3 hT0 hB
    clear hb
    go_wp2_with fail
    refine (HA5.out _).mono ?_
    rintro e w8 ⟨rfl, hb⟩
    obtain ⟨c0, c1, c2, c3, hT0, hB⟩ := both_keep hb c0 c1 c2 c3 hT0 hB
    clear hb
    go_wp2_with fail
    go_region_held3 (fun w' => w'.cell? ⟨w1.heap.size, 0, none⟩ = some (.int .i64 (l : Int)) ∧ w'.cell? ⟨w1.heap.size, 1, none⟩ = some (.int .i64 (h : Int)) ∧ w'.cell? ⟨w2.heap.size, 0, none⟩ = some (.int .i64 (l : Int)) ∧ w'.cell? ⟨w2.heap.size, 1, none⟩ = some (.int .i64 (-1)) ∧ Tab10 w' ∧ Below w.heap.size w w')
      (first
        | exact ⟨c0, c1, c2, c3, hT0, hB⟩
        | exact ⟨c0, c1, c2, c3, hT0, hB.drew⟩
        | (go_split_ands; exact both_keep hb (by assumption) (by assumption) (by assumption) (by assumption) (by assumption) (by assumption))
        | fail)
      (first
        | (go_at_call 13; with_reducible (refine (HW1.out _).mono ?_); rintro e w' ⟨rfl, hb⟩)
        | (go_at_call 13; with_reducible (refine (HW2.out _).mono ?_); rintro e w' ⟨rfl, hb⟩)
        | (go_at_call 7; with_reducible (refine (HM1.out _).mono ?_); rintro e w' ⟨rfl, hb⟩)
        | (go_at_call 7; with_reducible (refine (HM2.out _).mono ?_); rintro e w' ⟨rfl, hb⟩)
        | (go_at_call 7; with_reducible (refine (HM3.out _).mono ?_); rintro e w' ⟨rfl, hb⟩)
        | (go_at_call 21; go_split_ands; refine (awake _ (by assumption)).mono ?_; rintro e w' ⟨rfl, hb⟩))
    go_split_ands
    go_wp2
    go_ret
    exact ⟨rfl, by assumption⟩
  · have h0' : decide ((0 : Int) < (l : Int)) = false := by simp; omega
    clear hA4 f4 hlh
    go_enter Tryd.func6, Tryd.ntmps6
    go_wp2_with fail
    refine (HS.out _).mono ?_
    rintro e w1 ⟨rfl, hb⟩
    have hBa := hb.alloc hb.size (.cells #[.int .i64 l, .int .i64 h] 23)
    have hTa := hT.later hBa
    clear hb
    go_wp2_with fail
    refine (HS2.out _).mono ?_
    rintro e w2 ⟨rfl, hb⟩
    have hBb := hBa.trans (hb.mono hBa.size)
    have hB := hBb.alloc hBb.size (.cells #[.int .i64 l, .int .i64 (-1)] 23)
    have hTb := hTa.later hb
    have hn := (Below.refl _ w2).alloc (Nat.le_refl _) (.cells #[.int .i64 l, .int .i64 (-1)] 23)
    have hT0 := hTb.later hn
    have c0 := keep_cell hn (box0 hb)
    have c1 := keep_cell hn (box1 hb)
    have c2 : (w2.alloc (.cells #[.int .i64 l, .int .i64 (-1)] 23)).cell? ⟨w2.heap.size, 0, none⟩ = some (.int .i64 (l : Int)) := by rw [cell_of_row _ w2.heap.size 0 _ _ (0, 0) (heap_alloc_new w2 _)]; rfl
    have c3 : (w2.alloc (.cells #[.int .i64 l, .int .i64 (-1)] 23)).cell? ⟨w2.heap.size, 1, none⟩ = some (.int .i64 (-1)) := by rw [cell_of_row _ w2.heap.size 1 _ _ (0, 0) (heap_alloc_new w2 _)]; rfl
    clear hb hTa hTb hBa hBb hn
    go_wp2_with fail
    generalize w2.alloc (.cells #[.int .i64 l, .int .i64 (-1)] 23) = w3 at *
    refine (HA1.out _).mono ?_
    rintro e w4 ⟨rfl, hb⟩
    obtain ⟨c0, c1, c2, c3, hT0, hB⟩ := both_keep hb c0 c1 c2 c3 hT0 hB
    clear hb
    go_wp2_with fail
    refine (HA2.out _).mono ?_
    rintro e w5 ⟨rfl, hb⟩
    obtain ⟨c0, c1, c2, c3, hT0, hB⟩ := both_keep hb c0 c1 c2 c3 hT0 hB
    clear hb
    go_wp2_with fail
    refine (HA3.out _).mono ?_
    rintro e w6 ⟨rfl, hb⟩
    obtain ⟨c0, c1, c2, c3, hT0, hB⟩ := both_keep hb c0 c1 c2 c3 hT0 hB
    clear hb
    go_wp2_with fail
    refine (HA5.out _).mono ?_
    rintro e w7 ⟨rfl, hb⟩
    obtain ⟨c0, c1, c2, c3, hT0, hB⟩ := both_keep hb c0 c1 c2 c3 hT0 hB
    clear hb
    go_wp2_with fail
    go_region_held3 (fun w' => w'.cell? ⟨w1.heap.size, 0, none⟩ = some (.int .i64 (l : Int)) ∧ w'.cell? ⟨w1.heap.size, 1, none⟩ = some (.int .i64 (h : Int)) ∧ w'.cell? ⟨w2.heap.size, 0, none⟩ = some (.int .i64 (l : Int)) ∧ w'.cell? ⟨w2.heap.size, 1, none⟩ = some (.int .i64 (-1)) ∧ Tab10 w' ∧ Below w.heap.size w w')
      (first
        | exact ⟨c0, c1, c2, c3, hT0, hB⟩
        | exact ⟨c0, c1, c2, c3, hT0, hB.drew⟩
        | (go_split_ands; exact both_keep hb (by assumption) (by assumption) (by assumption) (by assumption) (by assumption) (by assumption))
        | fail)
      (first
        | (go_at_call 13; with_reducible (refine (HW1.out _).mono ?_); rintro e w' ⟨rfl, hb⟩)
        | (go_at_call 13; with_reducible (refine (HW2.out _).mono ?_); rintro e w' ⟨rfl, hb⟩)
        | (go_at_call 7; with_reducible (refine (HM1.out _).mono ?_); rintro e w' ⟨rfl, hb⟩)
        | (go_at_call 7; with_reducible (refine (HM2.out _).mono ?_); rintro e w' ⟨rfl, hb⟩)
        | (go_at_call 7; with_reducible (refine (HM3.out _).mono ?_); rintro e w' ⟨rfl, hb⟩)
        | (go_at_call 21; go_split_ands; refine (awake _ (by assumption)).mono ?_; rintro e w' ⟨rfl, hb⟩))
    go_split_ands
    go_wp2
    go_ret
    exact ⟨rfl, by assumption⟩
end Go.Proofs.YtlcijipkdopllaaDoor.Ival
