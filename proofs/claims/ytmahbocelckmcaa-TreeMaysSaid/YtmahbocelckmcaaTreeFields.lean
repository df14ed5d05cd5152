/-
  The walks of the landed tree's rightName, rightSpan, rightFields and rightKids. By an AI agent.
-/
import Derived.Test.YtmahbocelckmcaaTreeLeaf
import Derived.Test.YtmahbocelckmcaaLexNameLand
import Derived.Test.YtmahbocelckmcaaIvalLand
namespace Go.Proofs.Ytmahbocelckmcaa.Tree
open Go.RowKit Go.Proofs.Ytmahbocelckmcaa.Ints

/-- A node by value. -/
abbrev ndV (nd : Nd) (K : Option Addr) (m c : Nat) : Value := .agg #[.int .i64 nd.kind, .string nd.name, .int .i64 nd.lo, .int .i64 nd.hi, .slice K m c]
theorem box5 {w w' : World} {x0 x1 x2 x3 x4 : Value} {T : TypeId} (hb : Below (w.alloc (.cells #[x0, x1, x2, x3, x4] T)).heap.size (w.alloc (.cells #[x0, x1, x2, x3, x4] T)) w') :
    w'.cell? ⟨w.heap.size, 0, none⟩ = some x0 ∧ w'.cell? ⟨w.heap.size, 1, none⟩ = some x1 ∧ w'.cell? ⟨w.heap.size, 2, none⟩ = some x2 ∧ w'.cell? ⟨w.heap.size, 3, none⟩ = some x3 ∧ w'.cell? ⟨w.heap.size, 4, none⟩ = some x4 :=
  ⟨below_cell hb (box_cell 0 _ rfl), below_cell hb (box_cell 1 _ rfl), below_cell hb (box_cell 2 _ rfl), below_cell hb (box_cell 3 _ rfl), below_cell hb (box_cell 4 _ rfl)⟩
theorem below_box {w w' : World} {o : Obj} (hb : Below (w.alloc o).heap.size (w.alloc o) w') : Below w.heap.size w w' :=
  ((Below.refl _ _).alloc (Nat.le_refl _) o).trans (hb.mono (by simp))

set_option maxHeartbeats 1000000 in
theorem landRightName (nd : Nd) (K : Option Addr) (m c : Nat) (w : World) (hs : nd.name.size ≤ maxLen) :
    Calls Try.prog 68 #[ndV nd K m c] w fun e w' => e = .returned (.bool (nameOkB nd)) ∧ Below w.heap.size w w' := by
  unfold nameOkB
  by_cases h3 : nd.kind = 3
  · rw [if_pos h3]
    have h3' : (nd.kind == 3) = true := by rw [h3]; rfl
    have HN := Lib.hid (fun W => Lex.landName nd.name W hs)
    clear hs h3
    obtain ⟨b, hb⟩ : ∃ b, Lex.nameS nd.name.data.toList = b := ⟨_, rfl⟩
    rw [hb] at HN ⊢
    clear hb
    go_enter Try.func68, Try.ntmps68
    go_wp2_with (go_at_call 87; refine (HN.out _).mono ?_; rintro e w' ⟨rfl, rfl⟩)
    go_ret
    exact ⟨rfl, (Below.refl _ _).alloc (Nat.le_refl _) _⟩
  · rw [if_neg h3]
    have h3' : (nd.kind == 3) = false := beq_eq_false_iff_ne.2 h3
    clear hs h3
    by_cases hne : nd.name.data.toList = []
    · rw [decide_eq_true hne]
      have hn1 : nd.name.toList = [] := by rw [ByteArray.toList_eq]; exact hne
      have hn3 : nd.name.toList.isEmpty = true := by rw [hn1]; rfl
      clear hne
      go_enter Try.func68, Try.ntmps68
      go_wp2
      go_ret
      exact ⟨rfl, (Below.refl _ _).alloc (Nat.le_refl _) _⟩
    · rw [decide_eq_false hne]
      have hn3 : nd.name.toList.isEmpty = false := by
        rw [ByteArray.toList_eq]
        cases hh : nd.name.data.toList with
        | nil => exact absurd hh hne
        | cons x y => rfl
      clear hne
      go_enter Try.func68, Try.ntmps68
      go_wp2
      go_ret
      exact ⟨rfl, (Below.refl _ _).alloc (Nat.le_refl _) _⟩

set_option maxHeartbeats 1000000 in
theorem landRightSpan (nd : Nd) (K : Option Addr) (m c : Nat) (w : World) :
    Calls Try.prog 69 #[ndV nd K m c] w fun e w' => e = .returned (.bool (okSpan nd)) ∧ Below w.heap.size w w' := by
  unfold okSpan
  rcases htm : timed nd.kind
  · rw [if_neg (by decide)]
    have HSQ := Lib.hid (fun W => span_eql nd.lo nd.hi 0 0 W)
    have hways : decide (8 ≤ nd.kind) = false ∨ (decide (8 ≤ nd.kind) = true ∧ decide (nd.kind ≤ 17) = false) := by
      unfold timed at htm
      simp only [decide_eq_false_iff_not, decide_eq_true_iff] at htm ⊢
      omega
    obtain ⟨b, hb⟩ : ∃ b, decide (nd.lo = 0 ∧ nd.hi = 0) = b := ⟨_, rfl⟩
    rw [hb] at HSQ ⊢
    have HSQ1 := HSQ.out
    have hgs := guardSpan
    clear hb htm HSQ
    rcases hways with h8 | ⟨h8, h17⟩
    all_goals
      go_enter Try.func69, Try.ntmps69
      go_wp2
      go_ret
      exact ⟨rfl, (Below.refl _ _).alloc (Nat.le_refl _) _⟩
  · rw [if_pos rfl]
    have h8 : decide (8 ≤ nd.kind) = true := by unfold timed at htm; have := of_decide_eq_true htm; exact decide_eq_true this.1
    have h17 : decide (nd.kind ≤ 17) = true := by unfold timed at htm; have := of_decide_eq_true htm; exact decide_eq_true this.2
    have HM := Lib.hid (fun W => Ival.progMay nd.lo nd.hi W)
    obtain ⟨b, hb⟩ : ∃ b, Ival.mayS nd.lo nd.hi = b := ⟨_, rfl⟩
    rw [hb] at HM ⊢
    clear hb htm
    go_enter Try.func69, Try.ntmps69
    go_wp2_with (go_at_call 88; refine (HM.out _).mono ?_; rintro e w' ⟨rfl, hb1⟩)
    go_ret
    exact ⟨rfl, below_box hb1⟩

set_option maxHeartbeats 2000000 in
theorem landRightFields (nd : Nd) (K : Option Addr) (m c : Nat) (w : World) (hs : nd.name.size ≤ maxLen) :
    Calls Try.prog 54 #[ndV nd K m c] w fun e w' => e = .returned (.bool (fieldsB nd)) ∧ Below w.heap.size w w' := by
  unfold fieldsB
  have H1 := Lib.hid (fun W => landIsForm nd.kind W)
  have H2 := Lib.hid (fun W => landIsReg nd.kind W)
  have H3 := Lib.hid (fun W => landRightName nd K m c W hs)
  have H4 := Lib.hid (fun W => landRightSpan nd K m c W)
  clear hs
  obtain ⟨b1, h1⟩ : ∃ b, formKind nd.kind = b := ⟨_, rfl⟩
  obtain ⟨b2, h2⟩ : ∃ b, regKind nd.kind = b := ⟨_, rfl⟩
  obtain ⟨b3, h3⟩ : ∃ b, nameOkB nd = b := ⟨_, rfl⟩
  obtain ⟨b4, h4⟩ : ∃ b, okSpan nd = b := ⟨_, rfl⟩
  rw [h1] at H1
  rw [h2] at H2
  rw [h3] at H3
  rw [h4] at H4
  rw [h1, h2, h3, h4]
  clear h1 h2 h3 h4
  have key : (b1 = false ∧ b2 = false) ∨ ((b1 = true ∨ b1 = false ∧ b2 = true) ∧ b3 = false) ∨ ((b1 = true ∨ b1 = false ∧ b2 = true) ∧ b3 = true) := by cases b1 <;> cases b2 <;> cases b3 <;> simp
  rcases key with ⟨rfl, rfl⟩ | ⟨h, rfl⟩ | ⟨h, rfl⟩
  · go_enter Try.func54, Try.ntmps54
    go_wp2_with (first
      | (go_at_call 35; refine (H1.out _).mono ?_; rintro e w' ⟨rfl, rfl⟩)
      | (go_at_call 36; refine (H2.out _).mono ?_; rintro e w' ⟨rfl, rfl⟩))
    go_ret
    exact ⟨rfl, (Below.refl _ _).alloc (Nat.le_refl _) _⟩
  · rcases h with rfl | ⟨rfl, rfl⟩
    all_goals
      go_enter Try.func54, Try.ntmps54
      go_wp2_with (first
        | (go_at_call 35; refine (H1.out _).mono ?_; rintro e w' ⟨rfl, rfl⟩)
        | (go_at_call 36; refine (H2.out _).mono ?_; rintro e w' ⟨rfl, rfl⟩)
        | (go_at_call 68; refine (H3.out _).mono ?_; rintro e w1 ⟨rfl, hb1⟩))
      go_ret
      exact ⟨by first | rfl | (cases b2 <;> rfl), below_box hb1⟩
  · rcases h with rfl | ⟨rfl, rfl⟩
    all_goals
      go_enter Try.func54, Try.ntmps54
      go_wp2_with (first
        | (go_at_call 35; refine (H1.out _).mono ?_; rintro e w' ⟨rfl, rfl⟩)
        | (go_at_call 36; refine (H2.out _).mono ?_; rintro e w' ⟨rfl, rfl⟩)
        | (go_at_call 68; refine (H3.out _).mono ?_; rintro e w1 ⟨rfl, hb1⟩; obtain ⟨c0, c1, c2, c3, c4⟩ := box5 hb1)
        | (go_at_call 69; refine (H4.out _).mono ?_; rintro e w2 ⟨rfl, hb2⟩))
      go_ret
      exact ⟨by first | rfl | (cases b2 <;> rfl), (below_box hb1).trans (hb2.mono (below_box hb1).size)⟩
end Go.Proofs.Ytmahbocelckmcaa.Tree
