/-
  The walk of the reference's SameNodes. By an AI agent.
-/
import Derived.Test.YtbehlceacgaebaaNdEq
import Derived.Test.YtbehlceacgaebaaEqualInts
import Derived.Deep.RegionHeld3
namespace Go.Proofs.Ytbehlceacgaebaa.Tree
open Go.RowKit Go.Proofs.Ytbehlceacgaebaa.Ints

theorem nd_eq (x y : Nd) : decide (x = y) = (decide (x.kind = y.kind) && (decide (x.name = y.name) && (decide (x.lo = y.lo ∧ x.hi = y.hi) && decide (x.kids = y.kids)))) := by
  cases x; cases y
  simp only [Nd.mk.injEq, Bool.decide_and, Bool.and_assoc]
theorem str_beq (a b : ByteArray) : (a.toList == b.toList) = decide (a = b) := by
  rw [Bool.eq_iff_iff, beq_iff_eq, decide_eq_true_iff, ByteArray.toList_eq, ByteArray.toList_eq]
  exact ⟨fun h => ByteArray.ext (Array.toList_inj.1 h), fun h => by rw [h]⟩
theorem nodes_ext {l m : List Nd} (hl : l.length = m.length) (h : ∀ j : Nat, j < l.length → l[j]? = m[j]?) : l = m := by
  apply List.ext_getElem?
  intro j
  by_cases hj : j < l.length
  · exact h j hj
  · rw [List.getElem?_eq_none (by omega), List.getElem?_eq_none (by omega)]

theorem same_no {a b : List Nd} {k : Nat} {x y : Nd} (hx : a[k]? = some x) (hy : b[k]? = some y) (h : x ≠ y) : decide (a = b) = false := by
  rw [decide_eq_false_iff_not]
  intro e
  rw [e, hy] at hx
  exact h (Option.some.inj hx).symm
theorem same_ways (x y : Nd) : ((x.kind != y.kind) = true ∧ x ≠ y) ∨ ((x.kind != y.kind) = false ∧ (x.name.toList == y.name.toList) = false ∧ (x.name.toList != y.name.toList) = true ∧ x ≠ y) ∨
    ((x.kind != y.kind) = false ∧ (x.name.toList == y.name.toList) = true ∧ (x.name.toList != y.name.toList) = false ∧ decide (x.lo = y.lo ∧ x.hi = y.hi) = false ∧ x ≠ y) ∨
    ((x.kind != y.kind) = false ∧ (x.name.toList == y.name.toList) = true ∧ (x.name.toList != y.name.toList) = false ∧ decide (x.lo = y.lo ∧ x.hi = y.hi) = true ∧ decide (x.kids = y.kids) = false ∧ x ≠ y) ∨
    ((x.kind != y.kind) = false ∧ (x.name.toList == y.name.toList) = true ∧ (x.name.toList != y.name.toList) = false ∧ decide (x.lo = y.lo ∧ x.hi = y.hi) = true ∧ decide (x.kids = y.kids) = true ∧ x = y) := by
  by_cases h1 : x.kind = y.kind
  · have e1 : (x.kind != y.kind) = false := by rw [h1]; simp
    by_cases h2 : x.name = y.name
    · have e2 : (x.name.toList == y.name.toList) = true := by rw [str_beq]; exact decide_eq_true h2
      have e2' : (x.name.toList != y.name.toList) = false := by rw [bne, e2]; rfl
      by_cases h3 : x.lo = y.lo ∧ x.hi = y.hi
      · by_cases h4 : x.kids = y.kids
        · refine Or.inr (Or.inr (Or.inr (Or.inr ⟨e1, e2, e2', decide_eq_true h3, decide_eq_true h4, ?_⟩)))
          cases x; cases y
          simp only at h1 h2 h3 h4
          rw [h1, h2, h3.1, h3.2, h4]
        · exact Or.inr (Or.inr (Or.inr (Or.inl ⟨e1, e2, e2', decide_eq_true h3, decide_eq_false h4, fun e => h4 (by rw [e])⟩)))
      · exact Or.inr (Or.inr (Or.inl ⟨e1, e2, e2', decide_eq_false h3, fun e => h3 (by rw [e]; exact ⟨rfl, rfl⟩)⟩))
    · have e2 : (x.name.toList == y.name.toList) = false := by rw [str_beq]; exact decide_eq_false h2
      exact Or.inr (Or.inl ⟨e1, e2, by rw [bne, e2]; rfl, fun e => h2 (by rw [e])⟩)
  · exact Or.inl ⟨bne_iff_ne.2 h1, fun e => h1 (by rw [e])⟩

set_option maxHeartbeats 8000000 in
set_option maxRecDepth 100000 in
theorem refSameNodes (A B : Option Addr) (n c m d : Nat) (a b : List Nd) (w : World) (ha : a.length = n) (hb : b.length = m) (hn : n ≤ 4194304) (hA : Nodes Any w A a) (hB : Nodes Any w B b) :
    Calls Try.prog 8 #[.slice A n c, .slice B m d] w fun e w' => e = .returned (.bool (decide (a = b))) ∧ Below w.heap.size w w' := by
  have hni : (n : Int) ≤ 4194304 := by omega
  have HLA := Lib.hid ha
  have HLB := Lib.hid hb
  have HNA := Lib.hid hA
  have HNB := Lib.hid hB
  clear ha hb hA hB hn
  by_cases hnm : n = m
  · subst hnm
    have hne : ((n : Int) != (n : Int)) = false := by simp
    go_enter Try.func8, Try.ntmps8
    go_wp2
    go_loopw [15] (fun i wr => ∃ k : Nat, k ≤ n ∧ i = .int .i64 k ∧ Below w.heap.size w wr ∧ Hid (∀ j : Nat, j < k → a[j]? = b[j]?)) (fun i _ => n - (intOf i).toNat)
    case atStart => exact ⟨0, Nat.zero_le _, rfl, Below.refl _ _, fun j hj => absurd hj (by omega)⟩
    case round =>
      obtain ⟨k, hk, rfl, hB, HZ⟩ := hrel
      have HB := Lib.hid hB
      clear hB
      by_cases hkn : k < n
      · have hkn' : (k : Int) < (n : Int) := by omega
        have hk0 : (0 : Int) ≤ (k : Int) := by omega
        obtain ⟨b1, off1, e1, hn1⟩ := (HNA.out.below HB.out) (by have := HLA.out; omega)
        obtain ⟨b2, off2, e2, hn2⟩ := (HNB.out.below HB.out) (by have := HLB.out; omega)
        obtain ⟨x, hx⟩ : ∃ x, a[k]? = some x := ⟨_, List.getElem?_eq_getElem (by have := HLA.out; omega)⟩
        obtain ⟨y, hy⟩ : ∃ y, b[k]? = some y := ⟨_, List.getElem?_eq_getElem (by have := HLB.out; omega)⟩
        obtain ⟨x0, x1, x2, x3, -, -, -, -, K1, c1, x4, hK1, hKc1, hcK1, -, -⟩ := hn1 k x hx
        obtain ⟨y0, y1, y2, y3, -, -, -, -, K2, c2, y4, hK2, hKc2, hcK2, -, -⟩ := hn2 k y hy
        rw [Nat.mul_comm 5 k] at x0 x1 x2 x3 x4 y0 y1 y2 y3 y4
        have HX := Lib.hid hx
        have HY := Lib.hid hy
        have HEQ := Lib.hid (fun W (hb : Below wr.heap.size wr W) => equalInts K1 K2 x.kids.length c1 y.kids.length c2 x.kids y.kids W (hK1.below hb) (hK2.below hb) (Nat.le_trans hKc1 hcK1) (Nat.le_trans hKc2 hcK2))
        subst e1
        subst e2
        clear hn1 hn2 hx hy hK1 hK2 hKc1 hKc2 hcK1 hcK2
        go_wp2
        go_region_held3 (fun w' => w'.cell? ⟨b1, off1 + k * 5, none⟩ = some (.int .i64 x.kind) ∧ w'.cell? ⟨b1, off1 + k * 5 + 1, none⟩ = some (.string x.name) ∧ w'.cell? ⟨b1, off1 + k * 5 + 2, none⟩ = some (.int .i64 x.lo) ∧ w'.cell? ⟨b1, off1 + k * 5 + 3, none⟩ = some (.int .i64 x.hi) ∧ w'.cell? ⟨b1, off1 + k * 5 + 4, none⟩ = some (.slice K1 x.kids.length c1) ∧
            w'.cell? ⟨b2, off2 + k * 5, none⟩ = some (.int .i64 y.kind) ∧ w'.cell? ⟨b2, off2 + k * 5 + 1, none⟩ = some (.string y.name) ∧ w'.cell? ⟨b2, off2 + k * 5 + 2, none⟩ = some (.int .i64 y.lo) ∧ w'.cell? ⟨b2, off2 + k * 5 + 3, none⟩ = some (.int .i64 y.hi) ∧ w'.cell? ⟨b2, off2 + k * 5 + 4, none⟩ = some (.slice K2 y.kids.length c2)) (go_keep) (fail)
        all_goals
          rcases same_ways x y with ⟨hk, h⟩ | ⟨hk, hm1, hm2, h⟩ | ⟨hk, hm1, hm2, hsp, h⟩ | ⟨hk, hm1, hm2, hsp, hkd, h⟩ | ⟨hk, hm1, hm2, hsp, hkd, h⟩
          · have HR := Lib.hid (same_no HX.out HY.out h)
            clear h
            go_wp2
            go_ret
            exact ⟨by rw [HR.out]; rfl, (((HB.out.alloc HB.out.size _).alloc (le_alloc HB.out.size) _)).drew⟩
          · have HR := Lib.hid (same_no HX.out HY.out h)
            clear h
            go_wp2
            go_ret
            exact ⟨by rw [HR.out]; rfl, (((HB.out.alloc HB.out.size _).alloc (le_alloc HB.out.size) _)).drew⟩
          · have HR := Lib.hid (same_no HX.out HY.out h)
            have hsq := fun W => span_neq x.lo x.hi y.lo y.hi W
            rw [hsp] at hsq
            have hgs := guardSpan
            clear h hsp
            go_wp2
            go_ret
            exact ⟨by rw [HR.out]; rfl, (((HB.out.alloc HB.out.size _).alloc (le_alloc HB.out.size) _)).drew⟩
          · have HR := Lib.hid (same_no HX.out HY.out h)
            have hsq := fun W => span_neq x.lo x.hi y.lo y.hi W
            rw [hsp] at hsq
            have hgs := guardSpan
            rw [hkd] at HEQ
            clear h hsp hkd
            go_wp2_with (go_at_call 13; refine (HEQ.out _ (((Below.refl _ _).alloc (Nat.le_refl _) _).alloc (le_alloc (Nat.le_refl _)) _ |>.drew)).mono ?_; rintro e w' ⟨rfl, q, rfl⟩)
            go_ret
            exact ⟨by rw [HR.out]; rfl, below_drewN ((HB.out.alloc HB.out.size _).alloc (le_alloc HB.out.size) _) _⟩
          · have HZ2 := Lib.hid (show ∀ j : Nat, j < k + 1 → a[j]? = b[j]? from fun j hj => by
              by_cases hjk : j = k
              · rw [hjk, HX.out, HY.out, h]
              · exact HZ.out j (by omega))
            have hsq := fun W => span_neq x.lo x.hi y.lo y.hi W
            rw [hsp] at hsq
            have hgs := guardSpan
            rw [hkd] at HEQ
            clear h hsp hkd
            go_wp2_with (go_at_call 13; refine (HEQ.out _ (((Below.refl _ _).alloc (Nat.le_refl _) _).alloc (le_alloc (Nat.le_refl _)) _ |>.drew)).mono ?_; rintro e w' ⟨rfl, q, rfl⟩)
            go_roundw
            case rel => exact ⟨k + 1, by omega, by go_num, below_drewN ((HB.out.alloc HB.out.size _).alloc (le_alloc HB.out.size) _) _, HZ2⟩
            case measure => simp [intOf]; omega
      · have hge : decide ((k : Int) < (n : Int)) = false := by simp; omega
        have HR := Lib.hid (show decide (a = b) = true from decide_eq_true (nodes_ext (by rw [HLA.out, HLB.out]) (fun j hj => HZ.out j (by have := HLA.out; omega))))
        go_wp2
        go_ret
        exact ⟨by rw [HR.out]; rfl, HB.out⟩
  · have hne : ((n : Int) != (m : Int)) = true := by simp; omega
    have HR := Lib.hid (show decide (a = b) = false from decide_eq_false fun e => hnm (by rw [← HLA.out, ← HLB.out, e]))
    clear hnm
    go_enter Try.func8, Try.ntmps8
    go_wp2
    go_ret
    exact ⟨by rw [HR.out]; rfl, Below.refl _ _⟩
end Go.Proofs.Ytbehlceacgaebaa.Tree
