/-
  The walks of slices.EqualFunc over nodes and of the landed tree's Same. By an AI agent.
-/
import Derived.Test.YtmahbocelckmcaaTreeLand2
namespace Go.Proofs.Ytmahbocelckmcaa.Tree
open Go.RowKit Go.Proofs.Ytmahbocelckmcaa.Ints

theorem box_two {w w' : World} {x0 x1 x2 x3 x4 y0 y1 y2 y3 y4 : Value} {T : TypeId} (hb : Below ((w.alloc (.cells #[x0, x1, x2, x3, x4] T)).alloc (.cells #[y0, y1, y2, y3, y4] T)).heap.size ((w.alloc (.cells #[x0, x1, x2, x3, x4] T)).alloc (.cells #[y0, y1, y2, y3, y4] T)) w') : Below w.heap.size w w' :=
  (((Below.refl _ _).alloc (Nat.le_refl _) _).alloc (le_alloc (Nat.le_refl _)) _).trans (hb.mono (by simp; omega))

set_option maxHeartbeats 8000000 in
set_option maxRecDepth 100000 in
theorem landEqualNodes (A B : Option Addr) (n c m d : Nat) (a b : List Nd) (w : World) (ha : a.length = n) (hb : b.length = m) (hn : n ≤ 4194304) (hA : Nodes Any w A a) (hB : Nodes Any w B b) :
    Calls Try.prog 48 #[.slice A n c, .slice B m d, .func (.func 49) #[] #[]] w fun e w' => e = .returned (.bool (decide (a = b))) ∧ Below w.heap.size w w' := by
  have hni : (n : Int) ≤ 4194304 := by omega
  have HLA := Lib.hid ha
  have HLB := Lib.hid hb
  have HNA := Lib.hid hA
  have HNB := Lib.hid hB
  have HES := Lib.hid enterSameNode
  clear ha hb hA hB hn
  by_cases hnm : n = m
  · subst hnm
    have hne : ((n : Int) != (n : Int)) = false := by simp
    go_enter Try.func48, Try.ntmps48
    go_wp2
    go_loopw [17] (fun i wr => ∃ k : Nat, k ≤ n ∧ i = .int .i64 k ∧ Below w.heap.size w wr ∧ Hid (∀ j : Nat, j < k → a[j]? = b[j]?)) (fun i _ => n - (intOf i).toNat)
    case atStart => exact ⟨0, Nat.zero_le _, rfl, Below.refl _ _, fun j hj => absurd hj (by omega)⟩
    case round =>
      obtain ⟨k, hk, rfl, hB, HZ⟩ := hrel
      have HB := Lib.hid hB
      clear hB
      by_cases hkn : k < n
      · have hkn' : (k : Int) < (n : Int) := by omega
        have hk0 : (0 : Int) ≤ (k : Int) := by omega
        obtain ⟨b1, off1, e1, hn1⟩ := (HNA.out.below HB.out) (by have := HLA.out; omega)
        obtain ⟨b2, off2, e2, hn2⟩ := (HNB.out.below HB.out) (by have := HLB.out; omega)
        obtain ⟨x, hx⟩ : ∃ x, a[k]? = some x := ⟨_, List.getElem?_eq_getElem (by have := HLA.out; omega)⟩
        obtain ⟨y, hy⟩ : ∃ y, b[k]? = some y := ⟨_, List.getElem?_eq_getElem (by have := HLB.out; omega)⟩
        obtain ⟨x0, x1, x2, x3, -, -, -, -, K1, c1, x4, hK1, hKc1, hcK1, -, -⟩ := hn1 k x hx
        obtain ⟨y0, y1, y2, y3, -, -, -, -, K2, c2, y4, hK2, hKc2, hcK2, -, -⟩ := hn2 k y hy
        rw [Nat.mul_comm 5 k] at x0 x1 x2 x3 x4 y0 y1 y2 y3 y4
        obtain ⟨m1, hm1⟩ : ∃ m1, x.kids.length = m1 := ⟨_, rfl⟩
        obtain ⟨m2, hm2⟩ : ∃ m2, y.kids.length = m2 := ⟨_, rfl⟩
        rw [hm1] at x4 hK1 hKc1
        rw [hm2] at y4 hK2 hKc2
        have HX := Lib.hid hx
        have HY := Lib.hid hy
        have HSN := Lib.hid (fun W (hb : Below wr.heap.size wr W) => landSameNode x y K1 K2 m1 c1 m2 c2 W (hK1.below hb) (hK2.below hb) (Nat.le_trans hKc1 hcK1) (Nat.le_trans hKc2 hcK2))
        subst e1
        subst e2
        have hal : Below wr.heap.size wr (wr.alloc (.cells #[.int .i64 x.kind, .string x.name, .int .i64 x.lo, .int .i64 x.hi, .slice K1 m1 c1] 33)) := (Below.refl _ _).alloc (Nat.le_refl _) _
        have z0 := below_cell hal y0
        have z1 := below_cell hal y1
        have z2 := below_cell hal y2
        have z3 := below_cell hal y3
        have z4 := below_cell hal y4
        have es := HES.out
        clear hal
        clear hn1 hn2 hx hy hK1 hK2 hKc1 hKc2 hcK1 hcK2 hm1 hm2
        by_cases hxy : x = y
        · rw [decide_eq_true hxy] at HSN
          have HZ2 := Lib.hid (show ∀ j : Nat, j < k + 1 → a[j]? = b[j]? from fun j hj => by
            by_cases hjk : j = k
            · subst hjk; rw [HX.out, HY.out, hxy]
            · exact HZ.out j (by omega))
          clear hxy
          go_wp2_with (go_at_fn 49; refine (HSN.out _ (((Below.refl _ _).alloc (Nat.le_refl _) _).alloc (le_alloc (Nat.le_refl _)) _)).mono ?_; rintro e w1 ⟨rfl, hb1⟩)
          go_roundw
          case rel => exact ⟨k + 1, by omega, by go_num, HB.out.trans ((box_two hb1).mono HB.out.size), HZ2⟩
          case measure => simp [intOf]; omega
        · rw [decide_eq_false hxy] at HSN
          have HR := Lib.hid (same_no HX.out HY.out hxy)
          clear hxy
          go_wp2_with (go_at_fn 49; refine (HSN.out _ (((Below.refl _ _).alloc (Nat.le_refl _) _).alloc (le_alloc (Nat.le_refl _)) _)).mono ?_; rintro e w1 ⟨rfl, hb1⟩)
          go_ret
          exact ⟨by rw [HR.out]; rfl, HB.out.trans ((box_two hb1).mono HB.out.size)⟩
      · have hge : decide ((k : Int) < (n : Int)) = false := by simp; omega
        have HR := Lib.hid (show decide (a = b) = true from decide_eq_true (nodes_ext (by rw [HLA.out, HLB.out]) (fun j hj => HZ.out j (by have := HLA.out; omega))))
        go_wp2
        go_ret
        exact ⟨by rw [HR.out]; rfl, HB.out⟩
  · have hne : ((n : Int) != (m : Int)) = true := by simp; omega
    have HR := Lib.hid (show decide (a = b) = false from decide_eq_false fun e => hnm (by rw [← HLA.out, ← HLB.out, e]))
    clear hnm
    go_enter Try.func48, Try.ntmps48
    go_wp2
    go_ret
    exact ⟨by rw [HR.out]; rfl, Below.refl _ _⟩

set_option maxHeartbeats 4000000 in
theorem landSame (A B : Option Addr) (n c m d : Nat) (a b : List Nd) (w : World) (ha : a.length = n) (hb : b.length = m) (hn : n ≤ 1048576) (hm : m ≤ 1048576) (hA : Nodes Any w A a) (hB : Nodes Any w B b) :
    Calls Try.prog 24 #[.slice A n c, .slice B m d] w fun e w' => e = .returned (.bool (sameL a b)) ∧ Below w.heap.size w w' := by
  have hMA := fun W (hw : Below w.heap.size w W) => landMay A n c a W ha hn (hA.below hw)
  have hMB := fun W (hw : Below w.heap.size w W) => landMay B m d b W hb hm (hB.below hw)
  have HS := Lib.hid (fun W (hw : Below w.heap.size w W) => landEqualNodes A B n c m d a b W ha hb (by omega) (hA.below hw) (hB.below hw))
  clear ha hb hn hm hA hB
  rcases ea : mayL a
  · have HR := Lib.hid (show sameL a b = false by unfold sameL; rw [ea]; rfl)
    rw [ea] at hMA
    have HMA := Lib.hid hMA
    clear hMA hMB ea
    go_enter Try.func24, Try.ntmps24
    go_wp2_with (go_at_call 27; refine (HMA.out _ (Below.refl _ _)).mono ?_; rintro e w1 ⟨rfl, hb1⟩)
    go_ret
    exact ⟨by rw [HR.out]; rfl, hb1⟩
  · rw [ea] at hMA
    have HMA := Lib.hid hMA
    rcases eb : mayL b
    · have HR := Lib.hid (show sameL a b = false by unfold sameL; rw [eb]; simp)
      rw [eb] at hMB
      have HMB := Lib.hid hMB
      clear hMA hMB ea eb
      go_enter Try.func24, Try.ntmps24
      go_wp2_with (fail)
      refine (HMA.out _ (Below.refl _ _)).mono ?_
      rintro e w1 ⟨rfl, hb1⟩
      go_wp2_with (fail)
      refine (HMB.out _ hb1).mono ?_
      rintro e w2 ⟨rfl, hb2⟩
      go_wp2
      go_ret
      exact ⟨by rw [HR.out]; rfl, hb1.trans (hb2.mono hb1.size)⟩
    · have HR := Lib.hid (show sameL a b = decide (a = b) by unfold sameL; rw [ea, eb]; rfl)
      rw [eb] at hMB
      have HMB := Lib.hid hMB
      clear hMA hMB ea eb
      go_enter Try.func24, Try.ntmps24
      go_wp2_with (fail)
      refine (HMA.out _ (Below.refl _ _)).mono ?_
      rintro e w1 ⟨rfl, hb1⟩
      go_wp2_with (fail)
      refine (HMB.out _ hb1).mono ?_
      rintro e w2 ⟨rfl, hb2⟩
      go_wp2_with (fail)
      refine (HS.out _ (hb1.trans (hb2.mono hb1.size))).mono ?_
      rintro e w3 ⟨rfl, hb3⟩
      go_wp2
      go_ret
      exact ⟨by rw [HR.out]; rfl, (hb1.trans (hb2.mono hb1.size)).trans (hb3.mono (Nat.le_trans hb1.size hb2.size))⟩
end Go.Proofs.Ytmahbocelckmcaa.Tree
