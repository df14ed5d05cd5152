/-
  Intervals of time in plain arithmetic, and the walks of the reference's functions on them. By an AI agent.
-/
import Derived.Test.YtlcijipkdopllaaDoorChecked
import Derived.WalkKit
import Derived.WalkSpells
import Derived.WalkLawsBesides
import Derived.Below
import Derived.Lib.Hide
import Derived.Lib.MinMax
import Derived.IntWalk
namespace Go.Proofs.YtlcijipkdopllaaDoor.Ival
open Go.RowKit

/-- May the span be? -/
def mayS (lo hi : Int) : Bool := decide (0 ≤ lo ∧ lo ≤ 9999 ∧ (hi = -1 ∨ (lo ≤ hi ∧ hi ≤ 9999)))
def hasS (lo hi : Int) (d : Nat) : Bool := mayS lo hi && decide (lo ≤ d ∧ (hi = -1 ∨ (d : Int) ≤ hi))
def wideS (lo hi : Int) : Int := if mayS lo hi = true then (if hi = -1 then lo + 1 else hi + 1) else 0
def classS (lo hi : Int) (d : Nat) : Int := if mayS lo hi = true then (if hi = -1 then min (d : Int) lo else if hi < (d : Int) then -1 else d) else -1
def inS (lo hi c : Int) : Bool := decide (0 ≤ c ∧ c < wideS lo hi ∧ lo ≤ c)
def laterS (lo hi c : Int) (d : Nat) : Int :=
  if 0 ≤ c ∧ c < wideS lo hi then (if (d : Int) ≤ wideS lo hi - 1 - c then c + d else if hi = -1 then lo else -1) else -1

abbrev span (lo hi : Int) : Value := .agg #[.int .i64 lo, .int .i64 hi]

theorem may_parts {lo hi : Int} (h : mayS lo hi = true) : 0 ≤ lo ∧ lo ≤ 9999 ∧ (hi = -1 ∨ (lo ≤ hi ∧ hi ≤ 9999)) := of_decide_eq_true h

theorem box0 {w w' : World} {x y : Value} {T : TypeId} (hb : Below (w.alloc (.cells #[x, y] T)).heap.size (w.alloc (.cells #[x, y] T)) w') : w'.cell? ⟨w.heap.size, 0, none⟩ = some x := by
  have h : (w.alloc (.cells #[x, y] T)).cell? ⟨w.heap.size, 0, none⟩ = some x := by rw [cell_of_row _ w.heap.size 0 _ T (0, 0) (heap_alloc_new w _)]; rfl
  exact (hb.cell (World.block_lt_of_cell? _ _ h)).trans h
theorem box1 {w w' : World} {x y : Value} {T : TypeId} (hb : Below (w.alloc (.cells #[x, y] T)).heap.size (w.alloc (.cells #[x, y] T)) w') : w'.cell? ⟨w.heap.size, 1, none⟩ = some y := by
  have h : (w.alloc (.cells #[x, y] T)).cell? ⟨w.heap.size, 1, none⟩ = some y := by rw [cell_of_row _ w.heap.size 1 _ T (0, 0) (heap_alloc_new w _)]; rfl
  exact (hb.cell (World.block_lt_of_cell? _ _ h)).trans h
theorem keep_cell {w w' : World} {p : Addr} {u : Value} (hb : Below w.heap.size w w') (h : w.cell? p = some u) : w'.cell? p = some u := (hb.cell (World.block_lt_of_cell? w p h)).trans h
theorem may_cases (lo hi : Int) : lo < 0 ∧ mayS lo hi = false ∨ (0 ≤ lo ∧ 9999 < lo ∧ mayS lo hi = false) ∨ (0 ≤ lo ∧ lo ≤ 9999 ∧ hi = -1 ∧ mayS lo hi = true) ∨
    (0 ≤ lo ∧ lo ≤ 9999 ∧ (hi == -1) = false ∧ hi < lo ∧ mayS lo hi = false) ∨ (0 ≤ lo ∧ lo ≤ 9999 ∧ (hi == -1) = false ∧ lo ≤ hi ∧ decide (hi ≤ 9999) = false ∧ mayS lo hi = false) ∨
    (0 ≤ lo ∧ lo ≤ 9999 ∧ (hi == -1) = false ∧ lo ≤ hi ∧ hi ≤ 9999 ∧ mayS lo hi = true) := by
  unfold mayS
  simp only [beq_eq_false_iff_ne, ne_eq, decide_eq_false_iff_not, decide_eq_true_iff]
  omega

theorem refMay (lo hi : Int) (w : World) :
    Calls Tryd.prog 8 #[span lo hi] w fun e w' => e = .returned (.bool (mayS lo hi)) ∧ Below w.heap.size w w' := by
  rcases may_cases lo hi with ⟨h1, h⟩ | ⟨h1, h2, h⟩ | ⟨h1, h2, h3, h⟩ | ⟨h1, h2, h3, h4, h⟩ | ⟨h1, h2, h3, h4, h5, h⟩ | ⟨h1, h2, h3, h4, h5, h⟩
  all_goals
    rw [h]
    clear h
    go_enter Tryd.func8, Tryd.ntmps8
    go_wp2
    go_ret
    exact ⟨rfl, (Below.refl _ _).alloc (Nat.le_refl _) _⟩

/-- What a span that may be is; and one that may not. -/
theorem may_ways (lo hi : Int) : mayS lo hi = false ∨ (mayS lo hi = true ∧ hi = -1 ∧ 0 ≤ lo ∧ lo ≤ 9999) ∨ (mayS lo hi = true ∧ (hi == -1) = false ∧ ¬ hi = -1 ∧ 0 ≤ lo ∧ lo ≤ hi ∧ hi ≤ 9999) := by
  unfold mayS
  simp only [beq_eq_false_iff_ne, ne_eq, decide_eq_false_iff_not, decide_eq_true_iff]
  omega

theorem refHas (lo hi : Int) (d : Nat) (w : World) (_hd : d < 18446744073709551616) :
    Calls Tryd.prog 10 #[span lo hi, .int .u64 d] w fun e w' => e = .returned (.bool (hasS lo hi d)) ∧ Below w.heap.size w w' := by
  have hm := fun W => refMay lo hi W
  unfold hasS
  rcases may_ways lo hi with h | ⟨h, h1, h2, h3⟩ | ⟨h, h1, h0, h2, h3, h4⟩
  · rw [h] at hm ⊢
    have HM := Lib.hid hm
    clear hm h
    go_enter Tryd.func10, Tryd.ntmps10
    go_wp2_with (go_at_call 8; refine (HM.out _).mono ?_; rintro e w' ⟨rfl, hb⟩; have hc0 := box0 hb; have hc1 := box1 hb)
    go_ret
    exact ⟨rfl, ((Below.refl _ _).alloc (Nat.le_refl _) _).trans (hb.mono (by simp))⟩
  · subst h1
    rw [h] at hm ⊢
    have HM := Lib.hid hm
    have e1 : IntKind.u64.wrap lo = lo := by rw [IntKind.wrap_u64]; omega
    have HL := Lib.hid h3
    clear hm h
    by_cases h4 : lo ≤ (d : Int)
    · rw [show (true && decide (lo ≤ (d : Int) ∧ ((-1 : Int) = -1 ∨ (d : Int) ≤ -1))) = true by simp [h4]]
      go_enter Tryd.func10, Tryd.ntmps10
      go_wp2_with (go_at_call 8; refine (HM.out _).mono ?_; rintro e w' ⟨rfl, hb⟩; have hc0 := box0 hb; have hc1 := box1 hb)
      go_ret
      exact ⟨rfl, ((Below.refl _ _).alloc (Nat.le_refl _) _).trans (hb.mono (by simp))⟩
    · rw [show (true && decide (lo ≤ (d : Int) ∧ ((-1 : Int) = -1 ∨ (d : Int) ≤ -1))) = false by simp [h4]]
      go_enter Tryd.func10, Tryd.ntmps10
      go_wp2_with (go_at_call 8; refine (HM.out _).mono ?_; rintro e w' ⟨rfl, hb⟩; have hc0 := box0 hb; have hc1 := box1 hb)
      go_ret
      exact ⟨rfl, ((Below.refl _ _).alloc (Nat.le_refl _) _).trans (hb.mono (by simp))⟩
  · rw [h] at hm ⊢
    have HM := Lib.hid hm
    have e1 : IntKind.u64.wrap lo = lo := by rw [IntKind.wrap_u64]; omega
    have e2 : IntKind.u64.wrap hi = hi := by rw [IntKind.wrap_u64]; omega
    have HL := Lib.hid h0
    clear hm h h0
    by_cases h5 : lo ≤ (d : Int)
    · by_cases h6 : (d : Int) ≤ hi
      · rw [show (true && decide (lo ≤ (d : Int) ∧ (hi = -1 ∨ (d : Int) ≤ hi))) = true by simp [h5, h6]]
        go_enter Tryd.func10, Tryd.ntmps10
        go_wp2_with (go_at_call 8; refine (HM.out _).mono ?_; rintro e w' ⟨rfl, hb⟩; have hc0 := box0 hb; have hc1 := box1 hb)
        go_ret
        exact ⟨rfl, ((Below.refl _ _).alloc (Nat.le_refl _) _).trans (hb.mono (by simp))⟩
      · rw [show (true && decide (lo ≤ (d : Int) ∧ (hi = -1 ∨ (d : Int) ≤ hi))) = false by have := HL.out; simp [h6, this]]
        have h7 : decide ((d : Int) ≤ hi) = false := by simp; omega
        go_enter Tryd.func10, Tryd.ntmps10
        go_wp2_with (go_at_call 8; refine (HM.out _).mono ?_; rintro e w' ⟨rfl, hb⟩; have hc0 := box0 hb; have hc1 := box1 hb)
        go_ret
        exact ⟨rfl, ((Below.refl _ _).alloc (Nat.le_refl _) _).trans (hb.mono (by simp))⟩
    · rw [show (true && decide (lo ≤ (d : Int) ∧ (hi = -1 ∨ (d : Int) ≤ hi))) = false by simp [h5]]
      go_enter Tryd.func10, Tryd.ntmps10
      go_wp2_with (go_at_call 8; refine (HM.out _).mono ?_; rintro e w' ⟨rfl, hb⟩; have hc0 := box0 hb; have hc1 := box1 hb)
      go_ret
      exact ⟨rfl, ((Below.refl _ _).alloc (Nat.le_refl _) _).trans (hb.mono (by simp))⟩

theorem refWide (lo hi : Int) (w : World) :
    Calls Tryd.prog 14 #[span lo hi] w fun e w' => e = .returned (.int .i64 (wideS lo hi)) ∧ Below w.heap.size w w' := by
  have hm := fun W => refMay lo hi W
  unfold wideS
  rcases may_ways lo hi with h | ⟨h, h1, h2, h3⟩ | ⟨h, h1, h0, h2, h3, h4⟩
  · rw [h] at hm ⊢
    have HM := Lib.hid hm
    clear hm h
    go_enter Tryd.func14, Tryd.ntmps14
    go_wp2_with (go_at_call 8; refine (HM.out _).mono ?_; rintro e w' ⟨rfl, hb⟩; have hc0 := box0 hb; have hc1 := box1 hb)
    go_ret
    exact ⟨rfl, ((Below.refl _ _).alloc (Nat.le_refl _) _).trans (hb.mono (by simp))⟩
  · subst h1
    rw [h] at hm ⊢
    have HM := Lib.hid hm
    clear hm h
    go_enter Tryd.func14, Tryd.ntmps14
    go_wp2_with (go_at_call 8; refine (HM.out _).mono ?_; rintro e w' ⟨rfl, hb⟩; have hc0 := box0 hb; have hc1 := box1 hb)
    go_ret
    exact ⟨rfl, ((Below.refl _ _).alloc (Nat.le_refl _) _).trans (hb.mono (by simp))⟩
  · rw [h] at hm ⊢
    rw [if_pos rfl, if_neg h0]
    have HM := Lib.hid hm
    clear hm h h0
    go_enter Tryd.func14, Tryd.ntmps14
    go_wp2_with (go_at_call 8; refine (HM.out _).mono ?_; rintro e w' ⟨rfl, hb⟩; have hc0 := box0 hb; have hc1 := box1 hb)
    go_ret
    exact ⟨rfl, ((Below.refl _ _).alloc (Nat.le_refl _) _).trans (hb.mono (by simp))⟩

theorem refClass (lo hi : Int) (d : Nat) (w : World) (hd : d < 18446744073709551616) :
    Calls Tryd.prog 16 #[span lo hi, .int .u64 d] w fun e w' => e = .returned (.int .i64 (classS lo hi d)) ∧ Below w.heap.size w w' := by
  have hm := fun W => refMay lo hi W
  unfold classS
  rcases may_ways lo hi with h | ⟨h, h1, h2, h3⟩ | ⟨h, h1, h0, h2, h3, h4⟩
  · rw [h] at hm ⊢
    have HM := Lib.hid hm
    clear hm h
    go_enter Tryd.func16, Tryd.ntmps16
    go_wp2_with (go_at_call 8; refine (HM.out _).mono ?_; rintro e w' ⟨rfl, hb⟩; have hc0 := box0 hb; have hc1 := box1 hb)
    go_ret
    exact ⟨rfl, ((Below.refl _ _).alloc (Nat.le_refl _) _).trans (hb.mono (by simp))⟩
  · subst h1
    rw [h] at hm ⊢
    have HM := Lib.hid hm
    have e1 : IntKind.u64.wrap lo = lo := by rw [IntKind.wrap_u64]; omega
    have e2 : wrap64 (min (d : Int) lo) = min (d : Int) lo := IntWalk.wrap64_in _ (by omega)
    clear hm h
    go_enter Tryd.func16, Tryd.ntmps16
    go_wp2_with (go_at_call 8; refine (HM.out _).mono ?_; rintro e w' ⟨rfl, hb⟩; have hc0 := box0 hb; have hc1 := box1 hb)
    go_ret
    exact ⟨rfl, ((Below.refl _ _).alloc (Nat.le_refl _) _).trans (hb.mono (by simp))⟩
  · rw [h] at hm ⊢
    rw [if_pos rfl, if_neg h0]
    have HM := Lib.hid hm
    have e2 : IntKind.u64.wrap hi = hi := by rw [IntKind.wrap_u64]; omega
    clear hm h h0
    by_cases h5 : hi < (d : Int)
    · rw [if_pos h5]
      go_enter Tryd.func16, Tryd.ntmps16
      go_wp2_with (go_at_call 8; refine (HM.out _).mono ?_; rintro e w' ⟨rfl, hb⟩; have hc0 := box0 hb; have hc1 := box1 hb)
      go_ret
      exact ⟨rfl, ((Below.refl _ _).alloc (Nat.le_refl _) _).trans (hb.mono (by simp))⟩
    · rw [if_neg h5]
      have e3 : wrap64 (d : Int) = (d : Int) := IntWalk.wrap64_in _ (by omega)
      go_enter Tryd.func16, Tryd.ntmps16
      go_wp2_with (go_at_call 8; refine (HM.out _).mono ?_; rintro e w' ⟨rfl, hb⟩; have hc0 := box0 hb; have hc1 := box1 hb)
      go_ret
      exact ⟨rfl, ((Below.refl _ _).alloc (Nat.le_refl _) _).trans (hb.mono (by simp))⟩

theorem wide_le (lo hi : Int) : 0 ≤ wideS lo hi ∧ wideS lo hi ≤ 10000 := by
  unfold wideS
  rcases may_ways lo hi with h | ⟨h, h1, h2, h3⟩ | ⟨h, h1, h0, h2, h3, h4⟩
  · rw [h]; simp
  · rw [h, h1]; simp; omega
  · rw [h, if_pos rfl, if_neg h0]; omega

theorem refIn (lo hi c : Int) (w : World) :
    Calls Tryd.prog 18 #[span lo hi, .int .i64 c] w fun e w' => e = .returned (.bool (inS lo hi c)) ∧ Below w.heap.size w w' := by
  have hw := fun W => refWide lo hi W
  unfold inS
  obtain ⟨v, hv⟩ : ∃ v, wideS lo hi = v := ⟨_, rfl⟩
  rw [hv] at hw ⊢
  have HW := Lib.hid hw
  clear hw hv
  by_cases h1 : 0 ≤ c
  · by_cases h2 : c < v
    · have e1 : decide (0 ≤ c ∧ c < v ∧ lo ≤ c) = decide (lo ≤ c) := by simp [h1, h2]
      rw [e1]
      clear e1
      go_enter Tryd.func18, Tryd.ntmps18
      go_wp2_with (go_at_call 14; refine (HW.out _).mono ?_; rintro e w' ⟨rfl, hb⟩; have hc0 := box0 hb; have hc1 := box1 hb)
      go_ret
      exact ⟨rfl, ((Below.refl _ _).alloc (Nat.le_refl _) _).trans (hb.mono (by simp))⟩
    · rw [show decide (0 ≤ c ∧ c < v ∧ lo ≤ c) = false by simp [h2]]
      have h3 : decide (c < v) = false := by simp; omega
      go_enter Tryd.func18, Tryd.ntmps18
      go_wp2_with (go_at_call 14; refine (HW.out _).mono ?_; rintro e w' ⟨rfl, hb⟩; have hc0 := box0 hb; have hc1 := box1 hb)
      go_ret
      exact ⟨rfl, ((Below.refl _ _).alloc (Nat.le_refl _) _).trans (hb.mono (by simp))⟩
  · rw [show decide (0 ≤ c ∧ c < v ∧ lo ≤ c) = false by simp [h1]]
    go_enter Tryd.func18, Tryd.ntmps18
    go_wp2
    go_ret
    exact ⟨rfl, (Below.refl _ _).alloc (Nat.le_refl _) _⟩

theorem refLater (lo hi c : Int) (d : Nat) (w : World) (hd : d < 18446744073709551616) :
    Calls Tryd.prog 20 #[span lo hi, .int .i64 c, .int .u64 d] w fun e w' => e = .returned (.int .i64 (laterS lo hi c d)) ∧ Below w.heap.size w w' := by
  have hw := fun W => refWide lo hi W
  unfold laterS
  obtain ⟨hv0, hv1⟩ := wide_le lo hi
  obtain ⟨v, hv⟩ : ∃ v, wideS lo hi = v := ⟨_, rfl⟩
  rw [hv] at hw hv0 hv1 ⊢
  have HW := Lib.hid hw
  clear hw hv
  by_cases h1 : 0 ≤ c
  · by_cases h2 : c < v
    · rw [if_pos ⟨h1, h2⟩]
      have e1 : IntKind.u64.wrap (v - 1 - c) = v - 1 - c := by rw [IntKind.wrap_u64]; omega
      by_cases h3 : (d : Int) ≤ v - 1 - c
      · rw [if_pos h3]
        have e2 : wrap64 (d : Int) = (d : Int) := IntWalk.wrap64_in _ (by omega)
        go_enter Tryd.func20, Tryd.ntmps20
        go_wp2_with (first | (go_at_call 14; refine (HW.out _).mono ?_; rintro e w2 ⟨rfl, hb2⟩; have hc2 := keep_cell hb2 hc0; have hc3 := keep_cell hb2 hc1) | (go_at_call 14; refine (HW.out _).mono ?_; rintro e w' ⟨rfl, hb⟩; have hc0 := box0 hb; have hc1 := box1 hb))
        go_ret
        exact ⟨rfl, (((Below.refl _ _).alloc (Nat.le_refl _) _).trans (hb.mono (by simp))).trans (hb2.mono (by have := hb.size; simp at this; omega))⟩
      · rw [if_neg h3]
        by_cases h4 : hi = -1
        · subst h4
          rw [if_pos rfl]
          go_enter Tryd.func20, Tryd.ntmps20
          go_wp2_with (first | (go_at_call 14; refine (HW.out _).mono ?_; rintro e w2 ⟨rfl, hb2⟩; have hc2 := keep_cell hb2 hc0; have hc3 := keep_cell hb2 hc1) | (go_at_call 14; refine (HW.out _).mono ?_; rintro e w' ⟨rfl, hb⟩; have hc0 := box0 hb; have hc1 := box1 hb))
          go_ret
          exact ⟨rfl, (((Below.refl _ _).alloc (Nat.le_refl _) _).trans (hb.mono (by simp))).trans (hb2.mono (by have := hb.size; simp at this; omega))⟩
        · rw [if_neg h4]
          have h5 : (hi == -1) = false := by simp [h4]
          clear h4
          go_enter Tryd.func20, Tryd.ntmps20
          go_wp2_with (first | (go_at_call 14; refine (HW.out _).mono ?_; rintro e w2 ⟨rfl, hb2⟩; have hc2 := keep_cell hb2 hc0; have hc3 := keep_cell hb2 hc1) | (go_at_call 14; refine (HW.out _).mono ?_; rintro e w' ⟨rfl, hb⟩; have hc0 := box0 hb; have hc1 := box1 hb))
          go_ret
          exact ⟨rfl, (((Below.refl _ _).alloc (Nat.le_refl _) _).trans (hb.mono (by simp))).trans (hb2.mono (by have := hb.size; simp at this; omega))⟩
    · rw [if_neg (by omega)]
      go_enter Tryd.func20, Tryd.ntmps20
      go_wp2_with (go_at_call 14; refine (HW.out _).mono ?_; rintro e w' ⟨rfl, hb⟩; have hc0 := box0 hb; have hc1 := box1 hb)
      go_ret
      exact ⟨rfl, ((Below.refl _ _).alloc (Nat.le_refl _) _).trans (hb.mono (by simp))⟩
  · rw [if_neg (by omega)]
    go_enter Tryd.func20, Tryd.ntmps20
    go_wp2
    go_ret
    exact ⟨rfl, (Below.refl _ _).alloc (Nat.le_refl _) _⟩
end Go.Proofs.YtlcijipkdopllaaDoor.Ival
