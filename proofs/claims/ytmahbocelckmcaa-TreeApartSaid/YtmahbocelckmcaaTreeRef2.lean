/-
  The walks of the reference's Form, Reg, Plain and SameNodes. By an AI agent.
-/
import Derived.Test.YtmahbocelckmcaaTreeBase
import Derived.Test.YtmahbocelckmcaaTreeMay
namespace Go.Proofs.Ytmahbocelckmcaa.Tree
open Go.RowKit Go.Proofs.Ytmahbocelckmcaa.Ints

theorem last_at {l : List Nd} {n : Nat} (hl : l.length = n) (h0 : 0 < n) : ∃ x, l[n - 1]? = some x ∧ lastKind l = x.kind := by
  have h1 : n - 1 < l.length := by omega
  refine ⟨l[n - 1], List.getElem?_eq_getElem h1, ?_⟩
  unfold lastKind
  rw [List.getLast?_eq_getElem?, hl, List.getElem?_eq_getElem h1]
  rfl
/-- The kind's cell of the last node. -/
theorem last_cell {l : List Nd} {n : Nat} {w : World} {A : Option Addr} (hl : l.length = n) (h0 : 0 < n) (h : Nodes Any w A l) : ∃ b off, A = some ⟨b, off, none⟩ ∧ w.cell? ⟨b, off + (n - 1) * 5, none⟩ = some (.int .i64 (lastKind l)) := by
  obtain ⟨b, off, e, hn⟩ := h (by omega)
  obtain ⟨x, hx, hk⟩ := last_at hl h0
  refine ⟨b, off, e, ?_⟩
  have := (hn _ _ hx).1
  rw [Nat.mul_comm] at this
  rw [hk]; exact this

set_option maxHeartbeats 2000000 in
theorem refForm (A : Option Addr) (n c : Nat) (l : List Nd) (w : World) (hl : l.length = n) (hn : n ≤ 1048576) (h : Nodes Any w A l) :
    Calls Try.prog 28 #[.slice A n c] w fun e w' => e = .returned (.bool (formL l)) ∧ Below w.heap.size w w' := by
  have hni : (n : Int) ≤ 1048576 := by omega
  have hM := fun W (hb : Below w.heap.size w W) => refMay A n c l W hl hn (h.below hb)
  have HL := Lib.hid hl
  have HD := Lib.hid h
  clear hl hn h
  rcases hm : mayL l
  · have HR := Lib.hid (show formL l = false by unfold formL; rw [hm]; rfl)
    rw [hm] at hM
    have HM := Lib.hid hM
    clear hM hm
    go_enter Try.func28, Try.ntmps28
    go_wp2_with (go_at_call 26; refine (HM.out _ (Below.refl _ _)).mono ?_; rintro e w1 ⟨rfl, hb1⟩)
    go_ret
    exact ⟨by rw [HR.out]; rfl, hb1⟩
  · have h0 := may_ne hm
    have HR := Lib.hid (show formL l = formKind (lastKind l) by unfold formL; rw [hm]; rfl)
    rw [hm] at hM
    have HM := Lib.hid hM
    have hn0 : 0 < n := by rw [← HL.out]; exact h0
    obtain ⟨b, off, e, hc⟩ := last_cell HL.out hn0 HD.out
    have HF := Lib.hid (fun W => refFormKind (lastKind l) W)
    have hn1 : (0 : Int) ≤ (n : Int) - 1 := by omega
    have hn2 : (1 : Int) ≤ (n : Int) := by omega
    have HC := Lib.hid hc
    subst e
    clear hM hm h0 hc
    go_enter Try.func28, Try.ntmps28
    go_wp2_with (first
      | (go_at_call 26; refine (HM.out _ (Below.refl _ _)).mono ?_; rintro e w1 ⟨rfl, hb1⟩; have hc1 := below_cell hb1 HC.out)
      | (go_at_call 56; refine (HF.out _).mono ?_; rintro e w' ⟨rfl, rfl⟩))
    go_ret
    exact ⟨by rw [HR.out]; rfl, hb1⟩
set_option maxHeartbeats 2000000 in
theorem refReg (A : Option Addr) (n c : Nat) (l : List Nd) (w : World) (hl : l.length = n) (hn : n ≤ 1048576) (h : Nodes Any w A l) :
    Calls Try.prog 29 #[.slice A n c] w fun e w' => e = .returned (.bool (regL l)) ∧ Below w.heap.size w w' := by
  have hni : (n : Int) ≤ 1048576 := by omega
  have hM := fun W (hb : Below w.heap.size w W) => refMay A n c l W hl hn (h.below hb)
  have HL := Lib.hid hl
  have HD := Lib.hid h
  clear hl hn h
  rcases hm : mayL l
  · have HR := Lib.hid (show regL l = false by unfold regL; rw [hm]; rfl)
    rw [hm] at hM
    have HM := Lib.hid hM
    clear hM hm
    go_enter Try.func29, Try.ntmps29
    go_wp2_with (go_at_call 26; refine (HM.out _ (Below.refl _ _)).mono ?_; rintro e w1 ⟨rfl, hb1⟩)
    go_ret
    exact ⟨by rw [HR.out]; rfl, hb1⟩
  · have h0 := may_ne hm
    have HR := Lib.hid (show regL l = !formKind (lastKind l) by unfold regL; rw [hm]; rfl)
    rw [hm] at hM
    have HM := Lib.hid hM
    have hn0 : 0 < n := by rw [← HL.out]; exact h0
    obtain ⟨b, off, e, hc⟩ := last_cell HL.out hn0 HD.out
    have HF := Lib.hid (fun W => refFormKind (lastKind l) W)
    have hn1 : (0 : Int) ≤ (n : Int) - 1 := by omega
    have hn2 : (1 : Int) ≤ (n : Int) := by omega
    have HC := Lib.hid hc
    subst e
    clear hM hm h0 hc
    go_enter Try.func29, Try.ntmps29
    go_wp2_with (first
      | (go_at_call 26; refine (HM.out _ (Below.refl _ _)).mono ?_; rintro e w1 ⟨rfl, hb1⟩; have hc1 := below_cell hb1 HC.out)
      | (go_at_call 56; refine (HF.out _).mono ?_; rintro e w' ⟨rfl, rfl⟩))
    go_ret
    exact ⟨by rw [HR.out]; rfl, hb1⟩

theorem plain_stop {l : List Nd} {k : Nat} {n : Nd} (h : l[k]? = some n) (hs : sweet n.kind = true) : plainL l = false := by
  unfold plainL
  have : (l.all fun n => !sweet n.kind) = false := by
    rw [List.all_eq_false]
    exact ⟨n, List.mem_of_getElem? h, by rw [hs]; decide⟩
  rw [this]; rfl
theorem plain_all {l : List Nd} (h : ∀ (j : Nat) (n : Nd), l[j]? = some n → sweet n.kind = false) : plainL l = mayL l := by
  unfold plainL
  have : (l.all fun n => !sweet n.kind) = true := by
    rw [List.all_eq_true]
    intro n hn
    obtain ⟨j, hj, rfl⟩ := List.getElem_of_mem hn
    rw [h j _ (List.getElem?_eq_getElem hj)]; rfl
  rw [this]; rfl
theorem sweet_ways (k : Int) : ((k == 7) = true ∧ sweet k = true) ∨ ((k == 7) = false ∧ decide (8 ≤ k) = false ∧ sweet k = false) ∨ ((k == 7) = false ∧ decide (8 ≤ k) = true ∧ decide (k ≤ 15) = true ∧ sweet k = true) ∨ ((k == 7) = false ∧ decide (8 ≤ k) = true ∧ decide (k ≤ 15) = false ∧ sweet k = false) := by
  unfold sweet
  by_cases h7 : k = 7
  · exact Or.inl ⟨by rw [h7]; rfl, by rw [h7]; rfl⟩
  · have e7 : (k == 7) = false := beq_eq_false_iff_ne.2 h7
    by_cases h8 : 8 ≤ k
    · by_cases h15 : k ≤ 15
      · exact Or.inr (Or.inr (Or.inl ⟨e7, decide_eq_true h8, decide_eq_true h15, by simp; omega⟩))
      · exact Or.inr (Or.inr (Or.inr ⟨e7, decide_eq_true h8, decide_eq_false h15, by simp; omega⟩))
    · exact Or.inr (Or.inl ⟨e7, decide_eq_false h8, by simp; omega⟩)

set_option maxHeartbeats 2000000 in
theorem refPlain (A : Option Addr) (n c : Nat) (l : List Nd) (w : World) (hl : l.length = n) (hn : n ≤ 1048576) (h : Nodes Any w A l) :
    Calls Try.prog 30 #[.slice A n c] w fun e w' => e = .returned (.bool (plainL l)) ∧ Below w.heap.size w w' := by
  have hni : (n : Int) ≤ 1048576 := by omega
  have HM := Lib.hid (fun W (hb : Below w.heap.size w W) => refMay A n c l W hl hn (h.below hb))
  have HL := Lib.hid hl
  have HD := Lib.hid h
  clear hl hn h
  go_enter Try.func30, Try.ntmps30
  go_wp2
  go_loopw [7] (fun i wr => ∃ k : Nat, k ≤ n ∧ i = .int .i64 k ∧ Below w.heap.size w wr ∧ Hid (∀ (j : Nat) (x : Nd), j < k → l[j]? = some x → sweet x.kind = false)) (fun i _ => n - (intOf i).toNat)
  case atStart => exact ⟨0, Nat.zero_le _, rfl, Below.refl _ _, fun j x hj => absurd hj (by omega)⟩
  case round =>
    obtain ⟨k, hk, rfl, hB, HJ⟩ := hrel
    have HB := Lib.hid hB
    clear hB
    by_cases hkn : k < n
    · have hkn' : (k : Int) < (n : Int) := by omega
      obtain ⟨b, off, e, hnodes⟩ := (HD.out.below HB.out) (by have := HL.out; omega)
      obtain ⟨nd, hnd⟩ : ∃ nd, l[k]? = some nd := ⟨_, List.getElem?_eq_getElem (by have := HL.out; omega)⟩
      obtain ⟨x0, x1, x2, x3, s0, s2, s3, s1, K, cK, x4, hK, hKc, hcK, -, -⟩ := hnodes k nd hnd
      rw [Nat.mul_comm 5 k] at x0 x1 x2 x3 x4
      have HND := Lib.hid hnd
      subst e
      clear hnd hnodes hK
      rcases sweet_ways nd.kind with ⟨h7, hs⟩ | ⟨h7, h8, hs⟩ | ⟨h7, h8, h15, hs⟩ | ⟨h7, h8, h15, hs⟩
      · have HR := Lib.hid (plain_stop HND.out hs)
        clear hs
        go_wp2
        go_ret
        exact ⟨by rw [HR.out]; rfl, HB.out.alloc HB.out.size _⟩
      · have HJ2 := Lib.hid (show ∀ (j : Nat) (x : Nd), j < k + 1 → l[j]? = some x → sweet x.kind = false from fun j x hj hx => by
          by_cases hjk : j = k
          · subst hjk; rw [Option.some.inj (hx.symm.trans HND.out)]; exact hs
          · exact HJ.out j x (by omega) hx)
        clear hs
        go_wp2
        go_roundw
        case rel => exact ⟨k + 1, by omega, by go_num, HB.out.alloc HB.out.size _, HJ2⟩
        case measure => simp [intOf]; omega
      · have HR := Lib.hid (plain_stop HND.out hs)
        clear hs
        go_wp2
        go_ret
        exact ⟨by rw [HR.out]; rfl, HB.out.alloc HB.out.size _⟩
      · have HJ2 := Lib.hid (show ∀ (j : Nat) (x : Nd), j < k + 1 → l[j]? = some x → sweet x.kind = false from fun j x hj hx => by
          by_cases hjk : j = k
          · subst hjk; rw [Option.some.inj (hx.symm.trans HND.out)]; exact hs
          · exact HJ.out j x (by omega) hx)
        clear hs
        go_wp2
        go_roundw
        case rel => exact ⟨k + 1, by omega, by go_num, HB.out.alloc HB.out.size _, HJ2⟩
        case measure => simp [intOf]; omega
    · have hge : decide ((k : Int) < (n : Int)) = false := by simp; omega
      have HR := Lib.hid (plain_all (l := l) (fun j x hx => HJ.out j x (by have := (List.getElem?_eq_some_iff.1 hx).1; have := HL.out; omega) hx))
      go_wp2_with (go_at_call 26; refine (HM.out _ HB.out).mono ?_; rintro e w1 ⟨rfl, hb1⟩)
      go_ret
      exact ⟨by rw [HR.out]; rfl, HB.out.trans (hb1.mono HB.out.size)⟩
end Go.Proofs.Ytmahbocelckmcaa.Tree
