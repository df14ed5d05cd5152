/-
  The walk of the reference's product (stage 14). By an AI agent.
-/
import Derived.Test.YtdbgaccnejffpaaGreatGSatTells1
import Derived.Test.YtdbgaccnejffpaaGreatGSatTells4
namespace Go.Proofs.YtdbgaccnejffpaaGreat.Paths
open Go.RowKit Go.Proofs.YtdbgaccnejffpaaGreat.Ints Go.Proofs.YtdbgaccnejffpaaGreat.Mem Go.Proofs.YtdbgaccnejffpaaGreat.Src
def RdT (w : World) (A : Option Addr) (n : Nat) (m : Tb) : Prop := 0 < n → ∃ b off, A = some ⟨b, off, none⟩ ∧ ∀ i, i < n → ∃ K o c, w.cell? ⟨b, off + i, none⟩ = some (.slice (some ⟨K, o, none⟩) n c) ∧ n ≤ c ∧ c ≤ maxLen ∧ ∀ j, j < n → w.cell? ⟨K, o + j, none⟩ = some (.bool (m i j))
theorem RdT.below {w w' : World} {A : Option Addr} {n : Nat} {m : Tb} (h : RdT w A n m) (hb : Below w.heap.size w w') : RdT w' A n m := fun h0 => by
 obtain ⟨b, off, h1, h2⟩ := h h0
 refine ⟨b, off, h1, fun i hi => ?_⟩
 obtain ⟨K, o, c, h3, h4, h5, h6⟩ := h2 i hi
 exact ⟨K, o, c, below_cell hb h3, h4, h5, fun j hj => below_cell hb (h6 j hj)⟩
theorem Tab.reads {w : World} {lo B : Nat} {R : Nat → Nat} {n : Nat} {m : Tb} (h : Tab w lo B R n m) (hn : n ≤ maxLen) : RdT w (some ⟨B, 0, none⟩) n m := fun _ =>
 ⟨B, 0, rfl, fun i hi => ⟨R i, 0, n, by rw [Nat.zero_add]; exact h.outer hi, Nat.le_refl _, hn, fun j hj => by rw [Nat.zero_add]; exact h.inner hi hj⟩⟩
def pmT (n : Nat) (a b : Tb) (i0 k0 j0 : Nat) : Tb := fun i j => if i < i0 then prodT n a b i j else if i = i0 then ((List.range n).any fun k => decide (k < k0) && (a i k && b k j)) || (decide (j < j0) && (a i k0 && b k0 j)) else false
theorem any_false {α : Type} (l : List α) (p : α → Bool) (h : ∀ x ∈ l, p x = false) : l.any p = false := by
 rw [List.any_eq_false]
 intro x hx
 rw [h x hx]
 exact fun e => by cases e
theorem pm_start (n : Nat) (a b : Tb) (i j : Nat) : pmT n a b 0 0 0 i j = false := by
 unfold pmT
 rw [if_neg (by omega)]
 split
 ·rw [any_false _ _ (fun k _ => by rw [decide_eq_false (by omega)]; rfl), decide_eq_false (by omega)]
  rfl
 ·rfl
theorem pm_row (n : Nat) (a b : Tb) (i0 k0 i j : Nat) (hk : k0 < n) (hj : j < n) : pmT n a b i0 k0 n i j = pmT n a b i0 (k0 + 1) 0 i j := by
 unfold pmT
 split
 ·rfl
 ·split
  ·rw [decide_eq_true hj, decide_eq_false (show ¬ j < 0 by omega), Bool.true_and, Bool.false_and, Bool.or_false]
   rw [Bool.eq_iff_iff, Bool.or_eq_true, List.any_eq_true, List.any_eq_true]
   constructor
   ·rintro (⟨k, h1, h2⟩ | h)
    ·rw [Bool.and_eq_true, decide_eq_true_eq] at h2
     exact ⟨k, h1, by rw [Bool.and_eq_true, decide_eq_true_eq]; exact ⟨by omega, h2.2⟩⟩
    ·exact ⟨k0, List.mem_range.2 hk, by rw [Bool.and_eq_true, decide_eq_true_eq]; exact ⟨by omega, h⟩⟩
   ·rintro ⟨k, h1, h2⟩
    rw [Bool.and_eq_true, decide_eq_true_eq] at h2
    by_cases e : k = k0
    ·subst e
     exact .inr h2.2
    ·exact .inl ⟨k, h1, by rw [Bool.and_eq_true, decide_eq_true_eq]; exact ⟨by omega, h2.2⟩⟩
  ·rfl
theorem pm_next (n : Nat) (a b : Tb) (i0 i j : Nat) : pmT n a b i0 n 0 i j = pmT n a b (i0 + 1) 0 0 i j := by
 unfold pmT
 by_cases h1 : i < i0
 ·rw [if_pos h1, if_pos (by omega)]
 ·rw [if_neg h1]
  by_cases h2 : i = i0
  ·rw [if_pos h2, if_pos (by omega), decide_eq_false (show ¬ j < 0 by omega), Bool.false_and, Bool.or_false]
   unfold prodT
   rw [Bool.eq_iff_iff, List.any_eq_true, List.any_eq_true]
   constructor
   ·rintro ⟨k, h3, h4⟩
    rw [Bool.and_eq_true] at h4
    exact ⟨k, h3, h4.2⟩
   ·rintro ⟨k, h3, h4⟩
    exact ⟨k, h3, by rw [Bool.and_eq_true, decide_eq_true_eq]; exact ⟨List.mem_range.1 h3, h4⟩⟩
  ·rw [if_neg h2, if_neg (by omega)]
   split
   ·rw [any_false _ _ (fun k _ => by rw [decide_eq_false (by omega)]; rfl), decide_eq_false (by omega)]
    rfl
   ·rfl
theorem pm_end (n : Nat) (a b : Tb) (i j : Nat) (hi : i < n) : pmT n a b n 0 0 i j = prodT n a b i j := by
 unfold pmT
 rw [if_pos hi]
theorem pm_step (n : Nat) (a b : Tb) (i0 k0 j0 i j : Nat) : updT (pmT n a b i0 k0 j0) i0 j0 (pmT n a b i0 k0 j0 i0 j0 || a i0 k0 && b k0 j0) i j = pmT n a b i0 k0 (j0 + 1) i j := by
 unfold updT
 by_cases h : i = i0 ∧ j = j0
 ·rw [if_pos h]
  obtain ⟨rfl, rfl⟩ := h
  unfold pmT
  rw [if_neg (Nat.lt_irrefl _), if_pos rfl, if_neg (Nat.lt_irrefl _), if_pos rfl, decide_eq_false (Nat.lt_irrefl j), decide_eq_true (show j < j + 1 by omega), Bool.false_and, Bool.or_false, Bool.true_and]
 ·rw [if_neg h]
  unfold pmT
  split
  ·rfl
  ·split
   ·rename_i e
    have hj : j ≠ j0 := fun e2 => h ⟨e, e2⟩
    have e3 : decide (j < j0) = decide (j < j0 + 1) := by rw [decide_eq_decide]; omega
    rw [e3]
   ·rfl
set_option maxHeartbeats 16000000 in
set_option maxRecDepth 100000 in
theorem refProduct (A1 A2 : Option Addr) (n c1 c2 n2 : Nat) (a b : Tb) (w : World) (hn : n ≤ 1000000) (ha : RdT w A1 n a) (hb : RdT w A2 n b) (hc1 : n ≤ c1) (h2 : n2 = n) (hc2 : n ≤ c2) :
  Calls Tryz.prog 125 #[.slice A1 n c1, .slice A2 n2 c2] w fun e w' => ∃ B R, e = .returned (.slice (some ⟨B, 0, none⟩) n n) ∧ Tab w' w.heap.size B R n (prodT n a b) ∧ Below w.heap.size w w' := by
 subst h2
 have q63 : maxLen = 9223372036854775807 := rfl
 have HA := Lib.hid ha
 have HB := Lib.hid hb
 have HS := Lib.hid (refSquare n2 w hn)
 clear ha hb
 go_enter Tryz.func125, Tryz.ntmps125
 go_wp2_with (go_at_call 122; refine HS.out.mono ?_; rintro e w1 ⟨B, R, rfl, ht, hB1⟩)
 have HT := Lib.hid (ht.ext (m' := pmT n2 a b 0 0 0) (fun i j _ _ => (pm_start n2 a b i j).symm))
 have HB1 := Lib.hid hB1
 clear ht hB1 HS
 go_loopw [15] (fun v wr => ∃ i : Nat, v = .int .i64 (i : Nat) ∧ i ≤ n2 ∧ Tab wr w.heap.size B R n2 (pmT n2 a b i 0 0) ∧ Below w.heap.size w wr) (fun v _ => n2 - (intOf v).toNat)
 case atStart => exact ⟨0, rfl, Nat.zero_le _, HT.out, HB1.out⟩
 case round =>
  obtain ⟨i, rfl, hin, ht, hB⟩ := hrel
  have HTi := Lib.hid ht
  have HBi := Lib.hid hB
  clear ht hB
  by_cases hlt : i < n2
  ·go_wp2_with fail
   go_loopw [19] (fun v wr => ∃ k : Nat, v = .int .i64 (k : Nat) ∧ k ≤ n2 ∧ Tab wr w.heap.size B R n2 (pmT n2 a b i k 0) ∧ Below w.heap.size w wr) (fun v _ => n2 - (intOf v).toNat)
   case atStart => exact ⟨0, rfl, Nat.zero_le _, HTi.out, HBi.out⟩
   case round =>
    obtain ⟨k, rfl, hkn, ht, hB⟩ := hrel
    have HTk := Lib.hid ht
    have HBk := Lib.hid hB
    clear ht hB
    by_cases hlk : k < n2
    ·go_wp2_with fail
     go_loopw [23] (fun v wr => ∃ j : Nat, v = .int .i64 (j : Nat) ∧ j ≤ n2 ∧ Tab wr w.heap.size B R n2 (pmT n2 a b i k j) ∧ Below w.heap.size w wr) (fun v _ => n2 - (intOf v).toNat)
     case atStart => exact ⟨0, rfl, Nat.zero_le _, HTk.out, HBk.out⟩
     case round =>
      obtain ⟨j, rfl, hjn, ht, hB⟩ := hrel
      have HTj := Lib.hid ht
      have HBj := Lib.hid hB
      by_cases hlj : j < n2
      ·obtain ⟨ba, oa, rfl, hca⟩ := (HA.out.below hB) (by omega)
       obtain ⟨Ka, pa, qa, x1, x2, x3, x4⟩ := hca i hlt
       have x5 := x4 k hlk
       obtain ⟨bb, ob, rfl, hcb⟩ := (HB.out.below hB) (by omega)
       obtain ⟨Kb, pb, qb, y1, y2, y3, y4⟩ := hcb k hlk
       have y5 := y4 j hlj
       have z1 := ht.outer hlt
       have z2 := ht.inner hlt hlj
       have z3 := own_fz (ht.row i hlt) j
       have hlo : w.heap.size ≤ R i := ((ht.row i hlt).lt (R i) rfl).1
       obtain ⟨vm, hvm⟩ : ∃ v, pmT n2 a b i k j i j = v := ⟨_, rfl⟩
       obtain ⟨va, hva⟩ : ∃ v, a i k = v := ⟨_, rfl⟩
       obtain ⟨vb, hvb⟩ : ∃ v, b k j = v := ⟨_, rfl⟩
       rw [hvm] at z2
       rw [hva] at x5
       rw [hvb] at y5
       have HN := Lib.hid (show ∀ x, x = (vm || va && vb) → Tab (wr.setCell ⟨R i, j, none⟩ (.bool x)) w.heap.size B R n2 (pmT n2 a b i k (j + 1)) from fun x hx => (HTj.out.set hlt hlj x).ext (fun p q _ _ => by rw [hx, ← hvm, ← hva, ← hvb]; exact pm_step n2 a b i k j p q))
       have HBN := Lib.hid (fun x : Bool => HBj.out.setCell (p := ⟨R i, j, none⟩) hlo (.bool x))
       clear hca hcb x4 y4 ht hB hvm hva hvb HTi HTk HBi HBk HT
       go_wp2_with fail
       cases vm
       ·cases va
        ·cases vb
         ·refine Late.drew [31] (S := fun W => W.cell? ⟨B, i, none⟩ = some (.slice (some ⟨R i, 0, none⟩) n2 n2) ∧ W.cell? ⟨R i, j, none⟩ = some (.bool false) ∧ W.cell? ⟨ba, oa + i, none⟩ = some (.slice (some ⟨Ka, pa, none⟩) n2 qa) ∧ W.cell? ⟨Ka, pa + k, none⟩ = some (.bool false) ∧ W.cell? ⟨bb, ob + k, none⟩ = some (.slice (some ⟨Kb, pb, none⟩) n2 qb) ∧ W.cell? ⟨Kb, pb + j, none⟩ = some (.bool false)) (by kernel_rfl) ⟨z1, z2, x1, x5, y1, y5⟩ (fun hHeld => ?_)
          refine ltOp 0 hHeld ?_
          refine ltOp 1 hHeld ?_
          refine ltOp 2 hHeld ?_
          refine ltOp 3 hHeld ?_
          refine ltOp 4 hHeld ?_
          refine ltOp 5 hHeld ?_
          refine ltOp 6 hHeld ?_
          refine ltOp 7 hHeld ?_
          refine ltOp 8 hHeld ?_
          refine ltOp 9 hHeld ?_
          refine ltOp 10 hHeld ?_
          refine ltOp 11 hHeld ?_
          refine ltOp 12 hHeld ?_
          refine ltOp 13 hHeld ?_
          refine ltOp 14 hHeld ?_
          refine ltOp 15 hHeld ?_
          refine ltOp 16 hHeld ?_
          refine ltOp 17 hHeld ?_
          refine ltOp 18 hHeld ?_
          refine ltOp 19 hHeld ?_
          refine ltOp 20 hHeld ?_
          refine Late.take (i := 21) (oi := ?tko22) (v := undef) ?tkh22 (by kernel_rfl) (by kernel_rfl) (by kernel_rfl) (by kernel_rfl) ?tkq22 ?tky22 hHeld ?tkr22
          case tkh22 => (simp only [List.getElem?_toArray, List.getElem?_cons_succ, List.getElem?_cons_zero]; rfl)
          case tkq22 => exact fun _ _ _ h => h
          case tky22 => exact Or.inr ⟨by rfl, rfl⟩
          try simp only [Act.put, List.setIfInBounds_toArray, List.set_cons_zero, List.set_cons_succ]
          refine Late.take (i := 22) (oi := ?tko23) (v := undef) ?tkh23 (by kernel_rfl) (by kernel_rfl) (by kernel_rfl) (by kernel_rfl) ?tkq23 ?tky23 hHeld ?tkr23
          case tkh23 => (simp only [List.getElem?_toArray, List.getElem?_cons_succ, List.getElem?_cons_zero]; rfl)
          case tkq23 => exact fun _ _ _ h => h
          case tky23 => exact Or.inr ⟨by rfl, rfl⟩
          try simp only [Act.put, List.setIfInBounds_toArray, List.set_cons_zero, List.set_cons_succ]
          refine Late.take (i := 23) (oi := ?tko24) (v := undef) ?tkh24 (by kernel_rfl) (by kernel_rfl) (by kernel_rfl) (by kernel_rfl) ?tkq24 ?tky24 hHeld ?tkr24
          case tkh24 => (simp only [List.getElem?_toArray, List.getElem?_cons_succ, List.getElem?_cons_zero]; rfl)
          case tkq24 => exact fun _ _ _ h => h
          case tky24 => exact Or.inr ⟨by rfl, rfl⟩
          try simp only [Act.put, List.setIfInBounds_toArray, List.set_cons_zero, List.set_cons_succ]
          refine Late.take (i := 24) (oi := ?tko25) (v := undef) ?tkh25 (by kernel_rfl) (by kernel_rfl) (by kernel_rfl) (by kernel_rfl) ?tkq25 ?tky25 hHeld ?tkr25
          case tkh25 => (simp only [List.getElem?_toArray, List.getElem?_cons_succ, List.getElem?_cons_zero]; rfl)
          case tkq25 => exact fun _ _ _ h => h
          case tky25 => exact Or.inr ⟨by rfl, rfl⟩
          try simp only [Act.put, List.setIfInBounds_toArray, List.set_cons_zero, List.set_cons_succ]
          refine Late.take (i := 25) (oi := ?tko26) (v := undef) ?tkh26 (by kernel_rfl) (by kernel_rfl) (by kernel_rfl) (by kernel_rfl) ?tkq26 ?tky26 hHeld ?tkr26
          case tkh26 => (simp only [List.getElem?_toArray, List.getElem?_cons_succ, List.getElem?_cons_zero]; rfl)
          case tkq26 => exact fun _ _ _ h => h
          case tky26 => exact Or.inr ⟨by rfl, rfl⟩
          try simp only [Act.put, List.setIfInBounds_toArray, List.set_cons_zero, List.set_cons_succ]
          refine Late.take (i := 26) (oi := ?tko27) (v := undef) ?tkh27 (by kernel_rfl) (by kernel_rfl) (by kernel_rfl) (by kernel_rfl) ?tkq27 ?tky27 hHeld ?tkr27
          case tkh27 => (simp only [List.getElem?_toArray, List.getElem?_cons_succ, List.getElem?_cons_zero]; rfl)
          case tkq27 => exact fun _ _ _ h => h
          case tky27 => exact Or.inr ⟨by rfl, rfl⟩
          try simp only [Act.put, List.setIfInBounds_toArray, List.set_cons_zero, List.set_cons_succ]
          refine Late.take (i := 27) (oi := ?tko28) (v := undef) ?tkh28 (by kernel_rfl) (by kernel_rfl) (by kernel_rfl) (by kernel_rfl) ?tkq28 ?tky28 hHeld ?tkr28
          case tkh28 => (simp only [List.getElem?_toArray, List.getElem?_cons_succ, List.getElem?_cons_zero]; rfl)
          case tkq28 => exact fun _ _ _ h => h
          case tky28 => exact Or.inr ⟨by rfl, rfl⟩
          try simp only [Act.put, List.setIfInBounds_toArray, List.set_cons_zero, List.set_cons_succ]
          refine ltOp 28 hHeld ?_
          refine ltOp 29 hHeld ?_
          refine ltOp 30 hHeld ?_
          refine ltLast 31 (fun Kt hKt => ?_)
          go_simp
          refine hKt.out _ _ trivial (fun hT => ?_)
          clear hKt Kt hHeld
          have hHeld := hT
          clear hT
          try simp only [Act.put, tkA, tkB, tkC]
          refine wpAnyH_done (by kernel_rfl) ?_ _
          clear hHeld
          go_wp2_with fail
          go_roundw
          case rel => exact ⟨j + 1, by simp, by omega, (HN.out _ rfl).below (Below.refl _ _).drew, (HBN.out _).drew⟩
          case measure => (show n2 - (j + 1) < n2 - j; omega)
         ·refine Late.drew [31] (S := fun W => W.cell? ⟨B, i, none⟩ = some (.slice (some ⟨R i, 0, none⟩) n2 n2) ∧ W.cell? ⟨R i, j, none⟩ = some (.bool false) ∧ W.cell? ⟨ba, oa + i, none⟩ = some (.slice (some ⟨Ka, pa, none⟩) n2 qa) ∧ W.cell? ⟨Ka, pa + k, none⟩ = some (.bool false) ∧ W.cell? ⟨bb, ob + k, none⟩ = some (.slice (some ⟨Kb, pb, none⟩) n2 qb) ∧ W.cell? ⟨Kb, pb + j, none⟩ = some (.bool true)) (by kernel_rfl) ⟨z1, z2, x1, x5, y1, y5⟩ (fun hHeld => ?_)
          refine ltOp 0 hHeld ?_
          refine ltOp 1 hHeld ?_
          refine ltOp 2 hHeld ?_
          refine ltOp 3 hHeld ?_
          refine ltOp 4 hHeld ?_
          refine ltOp 5 hHeld ?_
          refine ltOp 6 hHeld ?_
          refine ltOp 7 hHeld ?_
          refine ltOp 8 hHeld ?_
          refine ltOp 9 hHeld ?_
          refine ltOp 10 hHeld ?_
          refine ltOp 11 hHeld ?_
          refine ltOp 12 hHeld ?_
          refine ltOp 13 hHeld ?_
          refine ltOp 14 hHeld ?_
          refine ltOp 15 hHeld ?_
          refine ltOp 16 hHeld ?_
          refine ltOp 17 hHeld ?_
          refine ltOp 18 hHeld ?_
          refine ltOp 19 hHeld ?_
          refine ltOp 20 hHeld ?_
          refine Late.take (i := 21) (oi := ?tko54) (v := undef) ?tkh54 (by kernel_rfl) (by kernel_rfl) (by kernel_rfl) (by kernel_rfl) ?tkq54 ?tky54 hHeld ?tkr54
          case tkh54 => (simp only [List.getElem?_toArray, List.getElem?_cons_succ, List.getElem?_cons_zero]; rfl)
          case tkq54 => exact fun _ _ _ h => h
          case tky54 => exact Or.inr ⟨by rfl, rfl⟩
          try simp only [Act.put, List.setIfInBounds_toArray, List.set_cons_zero, List.set_cons_succ]
          refine Late.take (i := 22) (oi := ?tko55) (v := undef) ?tkh55 (by kernel_rfl) (by kernel_rfl) (by kernel_rfl) (by kernel_rfl) ?tkq55 ?tky55 hHeld ?tkr55
          case tkh55 => (simp only [List.getElem?_toArray, List.getElem?_cons_succ, List.getElem?_cons_zero]; rfl)
          case tkq55 => exact fun _ _ _ h => h
          case tky55 => exact Or.inr ⟨by rfl, rfl⟩
          try simp only [Act.put, List.setIfInBounds_toArray, List.set_cons_zero, List.set_cons_succ]
          refine Late.take (i := 23) (oi := ?tko56) (v := undef) ?tkh56 (by kernel_rfl) (by kernel_rfl) (by kernel_rfl) (by kernel_rfl) ?tkq56 ?tky56 hHeld ?tkr56
          case tkh56 => (simp only [List.getElem?_toArray, List.getElem?_cons_succ, List.getElem?_cons_zero]; rfl)
          case tkq56 => exact fun _ _ _ h => h
          case tky56 => exact Or.inr ⟨by rfl, rfl⟩
          try simp only [Act.put, List.setIfInBounds_toArray, List.set_cons_zero, List.set_cons_succ]
          refine Late.take (i := 24) (oi := ?tko57) (v := undef) ?tkh57 (by kernel_rfl) (by kernel_rfl) (by kernel_rfl) (by kernel_rfl) ?tkq57 ?tky57 hHeld ?tkr57
          case tkh57 => (simp only [List.getElem?_toArray, List.getElem?_cons_succ, List.getElem?_cons_zero]; rfl)
          case tkq57 => exact fun _ _ _ h => h
          case tky57 => exact Or.inr ⟨by rfl, rfl⟩
          try simp only [Act.put, List.setIfInBounds_toArray, List.set_cons_zero, List.set_cons_succ]
          refine Late.take (i := 25) (oi := ?tko58) (v := undef) ?tkh58 (by kernel_rfl) (by kernel_rfl) (by kernel_rfl) (by kernel_rfl) ?tkq58 ?tky58 hHeld ?tkr58
          case tkh58 => (simp only [List.getElem?_toArray, List.getElem?_cons_succ, List.getElem?_cons_zero]; rfl)
          case tkq58 => exact fun _ _ _ h => h
          case tky58 => exact Or.inr ⟨by rfl, rfl⟩
          try simp only [Act.put, List.setIfInBounds_toArray, List.set_cons_zero, List.set_cons_succ]
          refine Late.take (i := 26) (oi := ?tko59) (v := undef) ?tkh59 (by kernel_rfl) (by kernel_rfl) (by kernel_rfl) (by kernel_rfl) ?tkq59 ?tky59 hHeld ?tkr59
          case tkh59 => (simp only [List.getElem?_toArray, List.getElem?_cons_succ, List.getElem?_cons_zero]; rfl)
          case tkq59 => exact fun _ _ _ h => h
          case tky59 => exact Or.inr ⟨by rfl, rfl⟩
          try simp only [Act.put, List.setIfInBounds_toArray, List.set_cons_zero, List.set_cons_succ]
          refine Late.take (i := 27) (oi := ?tko60) (v := undef) ?tkh60 (by kernel_rfl) (by kernel_rfl) (by kernel_rfl) (by kernel_rfl) ?tkq60 ?tky60 hHeld ?tkr60
          case tkh60 => (simp only [List.getElem?_toArray, List.getElem?_cons_succ, List.getElem?_cons_zero]; rfl)
          case tkq60 => exact fun _ _ _ h => h
          case tky60 => exact Or.inr ⟨by rfl, rfl⟩
          try simp only [Act.put, List.setIfInBounds_toArray, List.set_cons_zero, List.set_cons_succ]
          refine ltOp 28 hHeld ?_
          refine ltOp 29 hHeld ?_
          refine ltOp 30 hHeld ?_
          refine ltLast 31 (fun Kt hKt => ?_)
          go_simp
          refine hKt.out _ _ trivial (fun hT => ?_)
          clear hKt Kt hHeld
          have hHeld := hT
          clear hT
          try simp only [Act.put, tkA, tkB, tkC]
          refine wpAnyH_done (by kernel_rfl) ?_ _
          clear hHeld
          go_wp2_with fail
          go_roundw
          case rel => exact ⟨j + 1, by simp, by omega, (HN.out _ rfl).below (Below.refl _ _).drew, (HBN.out _).drew⟩
          case measure => (show n2 - (j + 1) < n2 - j; omega)
        ·cases vb
         ·refine Late.drew [31] (S := fun W => W.cell? ⟨B, i, none⟩ = some (.slice (some ⟨R i, 0, none⟩) n2 n2) ∧ W.cell? ⟨R i, j, none⟩ = some (.bool false) ∧ W.cell? ⟨ba, oa + i, none⟩ = some (.slice (some ⟨Ka, pa, none⟩) n2 qa) ∧ W.cell? ⟨Ka, pa + k, none⟩ = some (.bool true) ∧ W.cell? ⟨bb, ob + k, none⟩ = some (.slice (some ⟨Kb, pb, none⟩) n2 qb) ∧ W.cell? ⟨Kb, pb + j, none⟩ = some (.bool false)) (by kernel_rfl) ⟨z1, z2, x1, x5, y1, y5⟩ (fun hHeld => ?_)
          refine ltOp 0 hHeld ?_
          refine ltOp 1 hHeld ?_
          refine ltOp 2 hHeld ?_
          refine ltOp 3 hHeld ?_
          refine ltOp 4 hHeld ?_
          refine ltOp 5 hHeld ?_
          refine ltOp 6 hHeld ?_
          refine ltOp 7 hHeld ?_
          refine ltOp 8 hHeld ?_
          refine ltOp 9 hHeld ?_
          refine ltOp 10 hHeld ?_
          refine ltOp 11 hHeld ?_
          refine ltOp 12 hHeld ?_
          refine ltOp 13 hHeld ?_
          refine ltOp 14 hHeld ?_
          refine ltOp 15 hHeld ?_
          refine ltOp 16 hHeld ?_
          refine ltOp 17 hHeld ?_
          refine ltOp 18 hHeld ?_
          refine ltOp 19 hHeld ?_
          refine ltOp 20 hHeld ?_
          refine ltOp 21 hHeld ?_
          refine ltOp 22 hHeld ?_
          refine ltOp 23 hHeld ?_
          refine ltOp 24 hHeld ?_
          refine ltOp 25 hHeld ?_
          refine ltOp 26 hHeld ?_
          refine ltOp 27 hHeld ?_
          refine ltOp 28 hHeld ?_
          refine ltOp 29 hHeld ?_
          refine ltOp 30 hHeld ?_
          refine ltLast 31 (fun Kt hKt => ?_)
          go_simp
          refine hKt.out _ _ trivial (fun hT => ?_)
          clear hKt Kt hHeld
          have hHeld := hT
          clear hT
          try simp only [Act.put, tkA, tkB, tkC]
          refine wpAnyH_done (by kernel_rfl) ?_ _
          clear hHeld
          go_wp2_with fail
          go_roundw
          case rel => exact ⟨j + 1, by simp, by omega, (HN.out _ rfl).below (Below.refl _ _).drew, (HBN.out _).drew⟩
          case measure => (show n2 - (j + 1) < n2 - j; omega)
         ·refine Late.drew [31] (S := fun W => W.cell? ⟨B, i, none⟩ = some (.slice (some ⟨R i, 0, none⟩) n2 n2) ∧ W.cell? ⟨R i, j, none⟩ = some (.bool false) ∧ W.cell? ⟨ba, oa + i, none⟩ = some (.slice (some ⟨Ka, pa, none⟩) n2 qa) ∧ W.cell? ⟨Ka, pa + k, none⟩ = some (.bool true) ∧ W.cell? ⟨bb, ob + k, none⟩ = some (.slice (some ⟨Kb, pb, none⟩) n2 qb) ∧ W.cell? ⟨Kb, pb + j, none⟩ = some (.bool true)) (by kernel_rfl) ⟨z1, z2, x1, x5, y1, y5⟩ (fun hHeld => ?_)
          refine ltOp 0 hHeld ?_
          refine ltOp 1 hHeld ?_
          refine ltOp 2 hHeld ?_
          refine ltOp 3 hHeld ?_
          refine ltOp 4 hHeld ?_
          refine ltOp 5 hHeld ?_
          refine ltOp 6 hHeld ?_
          refine ltOp 7 hHeld ?_
          refine ltOp 8 hHeld ?_
          refine ltOp 9 hHeld ?_
          refine ltOp 10 hHeld ?_
          refine ltOp 11 hHeld ?_
          refine ltOp 12 hHeld ?_
          refine ltOp 13 hHeld ?_
          refine ltOp 14 hHeld ?_
          refine ltOp 15 hHeld ?_
          refine ltOp 16 hHeld ?_
          refine ltOp 17 hHeld ?_
          refine ltOp 18 hHeld ?_
          refine ltOp 19 hHeld ?_
          refine ltOp 20 hHeld ?_
          refine ltOp 21 hHeld ?_
          refine ltOp 22 hHeld ?_
          refine ltOp 23 hHeld ?_
          refine ltOp 24 hHeld ?_
          refine ltOp 25 hHeld ?_
          refine ltOp 26 hHeld ?_
          refine ltOp 27 hHeld ?_
          refine ltOp 28 hHeld ?_
          refine ltOp 29 hHeld ?_
          refine ltOp 30 hHeld ?_
          refine ltLast 31 (fun Kt hKt => ?_)
          go_simp
          refine hKt.out _ _ trivial (fun hT => ?_)
          clear hKt Kt hHeld
          have hHeld := hT
          clear hT
          try simp only [Act.put, tkA, tkB, tkC]
          refine wpAnyH_done (by kernel_rfl) ?_ _
          clear hHeld
          go_wp2_with fail
          go_roundw
          case rel => exact ⟨j + 1, by simp, by omega, (HN.out _ rfl).below (Below.refl _ _).drew, (HBN.out _).drew⟩
          case measure => (show n2 - (j + 1) < n2 - j; omega)
       ·have HN' := Lib.hid (HN.out true rfl)
        refine Late.drew [31] (S := fun W => W.cell? ⟨B, i, none⟩ = some (.slice (some ⟨R i, 0, none⟩) n2 n2) ∧ W.cell? ⟨R i, j, none⟩ = some (.bool true) ∧ W.cell? ⟨ba, oa + i, none⟩ = some (.slice (some ⟨Ka, pa, none⟩) n2 qa) ∧ W.cell? ⟨Ka, pa + k, none⟩ = some (.bool va) ∧ W.cell? ⟨bb, ob + k, none⟩ = some (.slice (some ⟨Kb, pb, none⟩) n2 qb) ∧ W.cell? ⟨Kb, pb + j, none⟩ = some (.bool vb)) (by kernel_rfl) ⟨z1, z2, x1, x5, y1, y5⟩ (fun hHeld => ?_)
        refine ltOp 0 hHeld ?_
        refine ltOp 1 hHeld ?_
        refine ltOp 2 hHeld ?_
        refine ltOp 3 hHeld ?_
        refine ltOp 4 hHeld ?_
        refine ltOp 5 hHeld ?_
        refine ltOp 6 hHeld ?_
        refine ltOp 7 hHeld ?_
        refine ltOp 8 hHeld ?_
        refine ltOp 9 hHeld ?_
        refine ltOp 10 hHeld ?_
        refine ltOp 11 hHeld ?_
        refine ltOp 12 hHeld ?_
        refine Late.take (i := 13) (oi := ?tko142) (v := undef) ?tkh142 (by kernel_rfl) (by kernel_rfl) (by kernel_rfl) (by kernel_rfl) ?tkq142 ?tky142 hHeld ?tkr142
        case tkh142 => (simp only [List.getElem?_toArray, List.getElem?_cons_succ, List.getElem?_cons_zero]; rfl)
        case tkq142 => exact fun _ _ _ h => h
        case tky142 => exact Or.inr ⟨by rfl, rfl⟩
        try simp only [Act.put, List.setIfInBounds_toArray, List.set_cons_zero, List.set_cons_succ]
        refine Late.take (i := 14) (oi := ?tko143) (v := undef) ?tkh143 (by kernel_rfl) (by kernel_rfl) (by kernel_rfl) (by kernel_rfl) ?tkq143 ?tky143 hHeld ?tkr143
        case tkh143 => (simp only [List.getElem?_toArray, List.getElem?_cons_succ, List.getElem?_cons_zero]; rfl)
        case tkq143 => exact fun _ _ _ h => h
        case tky143 => exact Or.inr ⟨by rfl, rfl⟩
        try simp only [Act.put, List.setIfInBounds_toArray, List.set_cons_zero, List.set_cons_succ]
        refine Late.take (i := 15) (oi := ?tko144) (v := undef) ?tkh144 (by kernel_rfl) (by kernel_rfl) (by kernel_rfl) (by kernel_rfl) ?tkq144 ?tky144 hHeld ?tkr144
        case tkh144 => (simp only [List.getElem?_toArray, List.getElem?_cons_succ, List.getElem?_cons_zero]; rfl)
        case tkq144 => exact fun _ _ _ h => h
        case tky144 => exact Or.inr ⟨by rfl, rfl⟩
        try simp only [Act.put, List.setIfInBounds_toArray, List.set_cons_zero, List.set_cons_succ]
        refine Late.take (i := 16) (oi := ?tko145) (v := undef) ?tkh145 (by kernel_rfl) (by kernel_rfl) (by kernel_rfl) (by kernel_rfl) ?tkq145 ?tky145 hHeld ?tkr145
        case tkh145 => (simp only [List.getElem?_toArray, List.getElem?_cons_succ, List.getElem?_cons_zero]; rfl)
        case tkq145 => exact fun _ _ _ h => h
        case tky145 => exact Or.inr ⟨by rfl, rfl⟩
        try simp only [Act.put, List.setIfInBounds_toArray, List.set_cons_zero, List.set_cons_succ]
        refine Late.take (i := 17) (oi := ?tko146) (v := undef) ?tkh146 (by kernel_rfl) (by kernel_rfl) (by kernel_rfl) (by kernel_rfl) ?tkq146 ?tky146 hHeld ?tkr146
        case tkh146 => (simp only [List.getElem?_toArray, List.getElem?_cons_succ, List.getElem?_cons_zero]; rfl)
        case tkq146 => exact fun _ _ _ h => h
        case tky146 => exact Or.inr ⟨by rfl, rfl⟩
        try simp only [Act.put, List.setIfInBounds_toArray, List.set_cons_zero, List.set_cons_succ]
        refine Late.take (i := 18) (oi := ?tko147) (v := undef) ?tkh147 (by kernel_rfl) (by kernel_rfl) (by kernel_rfl) (by kernel_rfl) ?tkq147 ?tky147 hHeld ?tkr147
        case tkh147 => (simp only [List.getElem?_toArray, List.getElem?_cons_succ, List.getElem?_cons_zero]; rfl)
        case tkq147 => exact fun _ _ _ h => h
        case tky147 => exact Or.inr ⟨by rfl, rfl⟩
        try simp only [Act.put, List.setIfInBounds_toArray, List.set_cons_zero, List.set_cons_succ]
        refine Late.take (i := 19) (oi := ?tko148) (v := undef) ?tkh148 (by kernel_rfl) (by kernel_rfl) (by kernel_rfl) (by kernel_rfl) ?tkq148 ?tky148 hHeld ?tkr148
        case tkh148 => (simp only [List.getElem?_toArray, List.getElem?_cons_succ, List.getElem?_cons_zero]; rfl)
        case tkq148 => exact fun _ _ _ h => h
        case tky148 => exact Or.inr ⟨by rfl, rfl⟩
        try simp only [Act.put, List.setIfInBounds_toArray, List.set_cons_zero, List.set_cons_succ]
        refine Late.take (i := 20) (oi := ?tko149) (v := undef) ?tkh149 (by kernel_rfl) (by kernel_rfl) (by kernel_rfl) (by kernel_rfl) ?tkq149 ?tky149 hHeld ?tkr149
        case tkh149 => (simp only [List.getElem?_toArray, List.getElem?_cons_succ, List.getElem?_cons_zero]; rfl)
        case tkq149 => exact fun _ _ _ h => h
        case tky149 => exact Or.inr ⟨by rfl, rfl⟩
        try simp only [Act.put, List.setIfInBounds_toArray, List.set_cons_zero, List.set_cons_succ]
        refine Late.take (i := 21) (oi := ?tko150) (v := undef) ?tkh150 (by kernel_rfl) (by kernel_rfl) (by kernel_rfl) (by kernel_rfl) ?tkq150 ?tky150 hHeld ?tkr150
        case tkh150 => (simp only [List.getElem?_toArray, List.getElem?_cons_succ, List.getElem?_cons_zero]; rfl)
        case tkq150 => exact fun _ _ _ h => h
        case tky150 => exact Or.inr ⟨by rfl, rfl⟩
        try simp only [Act.put, List.setIfInBounds_toArray, List.set_cons_zero, List.set_cons_succ]
        refine Late.take (i := 22) (oi := ?tko151) (v := undef) ?tkh151 (by kernel_rfl) (by kernel_rfl) (by kernel_rfl) (by kernel_rfl) ?tkq151 ?tky151 hHeld ?tkr151
        case tkh151 => (simp only [List.getElem?_toArray, List.getElem?_cons_succ, List.getElem?_cons_zero]; rfl)
        case tkq151 => exact fun _ _ _ h => h
        case tky151 => exact Or.inr ⟨by rfl, rfl⟩
        try simp only [Act.put, List.setIfInBounds_toArray, List.set_cons_zero, List.set_cons_succ]
        refine Late.take (i := 23) (oi := ?tko152) (v := undef) ?tkh152 (by kernel_rfl) (by kernel_rfl) (by kernel_rfl) (by kernel_rfl) ?tkq152 ?tky152 hHeld ?tkr152
        case tkh152 => (simp only [List.getElem?_toArray, List.getElem?_cons_succ, List.getElem?_cons_zero]; rfl)
        case tkq152 => exact fun _ _ _ h => h
        case tky152 => exact Or.inr ⟨by rfl, rfl⟩
        try simp only [Act.put, List.setIfInBounds_toArray, List.set_cons_zero, List.set_cons_succ]
        refine Late.take (i := 24) (oi := ?tko153) (v := undef) ?tkh153 (by kernel_rfl) (by kernel_rfl) (by kernel_rfl) (by kernel_rfl) ?tkq153 ?tky153 hHeld ?tkr153
        case tkh153 => (simp only [List.getElem?_toArray, List.getElem?_cons_succ, List.getElem?_cons_zero]; rfl)
        case tkq153 => exact fun _ _ _ h => h
        case tky153 => exact Or.inr ⟨by rfl, rfl⟩
        try simp only [Act.put, List.setIfInBounds_toArray, List.set_cons_zero, List.set_cons_succ]
        refine Late.take (i := 25) (oi := ?tko154) (v := undef) ?tkh154 (by kernel_rfl) (by kernel_rfl) (by kernel_rfl) (by kernel_rfl) ?tkq154 ?tky154 hHeld ?tkr154
        case tkh154 => (simp only [List.getElem?_toArray, List.getElem?_cons_succ, List.getElem?_cons_zero]; rfl)
        case tkq154 => exact fun _ _ _ h => h
        case tky154 => exact Or.inr ⟨by rfl, rfl⟩
        try simp only [Act.put, List.setIfInBounds_toArray, List.set_cons_zero, List.set_cons_succ]
        refine Late.take (i := 26) (oi := ?tko155) (v := undef) ?tkh155 (by kernel_rfl) (by kernel_rfl) (by kernel_rfl) (by kernel_rfl) ?tkq155 ?tky155 hHeld ?tkr155
        case tkh155 => (simp only [List.getElem?_toArray, List.getElem?_cons_succ, List.getElem?_cons_zero]; rfl)
        case tkq155 => exact fun _ _ _ h => h
        case tky155 => exact Or.inr ⟨by rfl, rfl⟩
        try simp only [Act.put, List.setIfInBounds_toArray, List.set_cons_zero, List.set_cons_succ]
        refine Late.take (i := 27) (oi := ?tko156) (v := undef) ?tkh156 (by kernel_rfl) (by kernel_rfl) (by kernel_rfl) (by kernel_rfl) ?tkq156 ?tky156 hHeld ?tkr156
        case tkh156 => (simp only [List.getElem?_toArray, List.getElem?_cons_succ, List.getElem?_cons_zero]; rfl)
        case tkq156 => exact fun _ _ _ h => h
        case tky156 => exact Or.inr ⟨by rfl, rfl⟩
        try simp only [Act.put, List.setIfInBounds_toArray, List.set_cons_zero, List.set_cons_succ]
        refine Late.take (i := 28) (oi := ?tko157) (v := undef) ?tkh157 (by kernel_rfl) (by kernel_rfl) (by kernel_rfl) (by kernel_rfl) ?tkq157 ?tky157 hHeld ?tkr157
        case tkh157 => (simp only [List.getElem?_toArray, List.getElem?_cons_succ, List.getElem?_cons_zero]; rfl)
        case tkq157 => exact fun _ _ _ h => h
        case tky157 => exact Or.inr ⟨by rfl, rfl⟩
        try simp only [Act.put, List.setIfInBounds_toArray, List.set_cons_zero, List.set_cons_succ]
        refine ltOp 29 hHeld ?_
        refine ltOp 30 hHeld ?_
        refine ltLast 31 (fun Kt hKt => ?_)
        go_simp
        refine hKt.out _ _ trivial (fun hT => ?_)
        clear hKt Kt hHeld
        have hHeld := hT
        clear hT
        try simp only [Act.put, tkA, tkB, tkC]
        refine wpAnyH_done (by kernel_rfl) ?_ _
        clear hHeld
        go_wp2_with fail
        go_roundw
        case rel => exact ⟨j + 1, by simp, by omega, HN'.out.below (Below.refl _ _).drew, (HBN.out _).drew⟩
        case measure => (show n2 - (j + 1) < n2 - j; omega)
      ·obtain rfl : j = n2 := by omega
       clear ht hB
       go_wp2_with fail
       go_roundw
       case rel => exact ⟨k + 1, by simp, by omega, HTj.out.ext (fun p q _ hq => pm_row j a b i k p q hlk hq), HBj.out⟩
       case measure => (show j - (k + 1) < j - k; omega)
    ·obtain rfl : k = n2 := by omega
     go_wp2_with fail
     go_roundw
     case rel => exact ⟨i + 1, by simp, by omega, HTk.out.ext (fun p q _ _ => pm_next k a b i p q), HBk.out⟩
     case measure => (show k - (i + 1) < k - i; omega)
  ·obtain rfl : i = n2 := by omega
   have HE := Lib.hid (HTi.out.ext (m' := prodT i a b) (fun p q hp _ => pm_end i a b p q hp))
   go_wp2_with fail
   go_ret
   exact ⟨B, R, rfl, HE.out, HBi.out⟩
end Go.Proofs.YtdbgaccnejffpaaGreat.Paths
