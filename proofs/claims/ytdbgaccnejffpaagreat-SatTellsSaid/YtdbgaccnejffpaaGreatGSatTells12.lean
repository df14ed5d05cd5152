/-
  The reference's reach, node by node: any number of times (stage 14). By an AI agent.
  The reference's reach, node by node: one of two kids (stage 14). By an AI agent.
  The reference's reach, every node (stage 14). By an AI agent.
  The reference's Reach (stage 14). By an AI agent.
-/
import Derived.Test.YtdbgaccnejffpaaGreatGSatTells11
import Derived.Test.YtdbgaccnejffpaaGreatGSatTells1
namespace Go.Proofs.YtdbgaccnejffpaaGreat.Paths
open Go.RowKit Go.Proofs.YtdbgaccnejffpaaGreat.Ints Go.Proofs.YtdbgaccnejffpaaGreat.Mem Go.Proofs.YtdbgaccnejffpaaGreat.Src Go.Proofs.YtdbgaccnejffpaaGreat.Tree Go.Proofs.YtdbgaccnejffpaaGreat.BitsWalks Go.Proofs.YtdbgaccnejffpaaGreat.RdW
def diagT (a : Tb) (k : Nat) : Tb := fun i j => a i j || (decide (i < k) && decide (i = j))
theorem diag_next (a : Tb) (k i j : Nat) : updT (diagT a k) k k true i j = diagT a (k + 1) i j := by
 unfold updT diagT
 by_cases e : i = k ∧ j = k
 ·obtain ⟨rfl, rfl⟩ := e
  rw [if_pos ⟨rfl, rfl⟩, decide_eq_true (Nat.lt_succ_self _), decide_eq_true rfl, Bool.and_self, Bool.or_true]
 ·rw [if_neg e, show (decide (i < k + 1) && decide (i = j)) = (decide (i < k) && decide (i = j)) by
   rw [Bool.eq_iff_iff, Bool.and_eq_true, Bool.and_eq_true, decide_eq_true_eq, decide_eq_true_eq, decide_eq_true_eq]
   omega]
theorem diag_all (a : Tb) (n i j : Nat) (hi : i < n) : diagT a n i j = idT a i j := by
 unfold diagT idT
 rw [decide_eq_true hi, Bool.true_and]
set_option maxHeartbeats 8000000 in
set_option maxRecDepth 100000 in
theorem reach_many (A T V : Option Addr) (n c nt ct nv cv at_ : Nat) (l : List Nd) (ts : List Int) (vs : Nat → List Nat) (w : World) (h : RIn w A n l T nt ts V nv vs) (hat : at_ < n) (hk : kindN l at_ = 22) (f : Nat)
  (ih : ∀ y, y < at_ → ∀ W, Below w.heap.size w W → Calls Tryz.prog 103 #[.slice A n c, .int .i64 (y : Nat), .slice T nt ct, .slice V nv cv] W (GotTab W nv (reachT (rxOf l ts vs) nv f y))) :
  Calls Tryz.prog 103 #[.slice A n c, .int .i64 (at_ : Nat), .slice T nt ct, .slice V nv cv] w (GotTab w nv (reachT (rxOf l ts vs) nv (f + 1) at_)) := by
 have q63 : maxLen = 9223372036854775807 := rfl
 have hs := h.small
 have hnv := h.nvs
 have HSQ := Lib.hid (refSquare nv w hnv)
 obtain ⟨b, off, nd, Kb, ko, cK, rfl, hkd, hcK, hlt, HX⟩ := node_kids h hat (m := 1) (by rw [hk]; rfl) (by decide)
 have HX := Lib.hid HX
 have HI0 := Lib.hid (ih (kidN l at_ 0) (hlt 0 (by decide)))
 have HE := Lib.hid (show sqT nv nv 1 (idT (reachT (rxOf l ts vs) nv f (kidN l at_ 0))) = reachT (rxOf l ts vs) nv (f + 1) at_ from by
  conv => rhs; unfold reachT
  have e : (rxOf l ts vs).kd at_ = 22 := hk
  rw [if_neg (by rw [e]; decide), if_neg (by rw [e]; decide), if_neg (by rw [e]; decide), if_neg (by rw [e]; decide), if_pos e]
  rfl)
 rw [hkd, hk] at HX
 obtain ⟨t0, ht0⟩ : ∃ t, reachT (rxOf l ts vs) nv f (kidN l at_ 0) = t := ⟨_, rfl⟩
 have hl0 := hlt 0 (by decide)
 rw [ht0] at HE HI0
 have HK := Lib.hid (fun W (hb : Below w.heap.size w W) => (HX.out W hb).2.2.2.2.2 0 (by decide))
 obtain ⟨k0, hk0⟩ : ∃ t, kidN l at_ 0 = t := ⟨_, rfl⟩
 rw [hk0] at HI0 HK hl0
 clear h hlt ih hkd ht0 hk0
 go_enter Tryz.func103, Tryz.ntmps103
 go_wp2_with fail
 refine HSQ.out.mono ?_
 rintro e w1 ⟨B, R, rfl, -, hB1⟩
 obtain ⟨x0, x1, x2, x3, x4, -⟩ := HX.out _ hB1
 have hBV := hB1.alloc hB1.size (.cells #[.int .i64 22, .string nd.name, .int .i64 nd.lo, .int .i64 nd.hi, .slice (some ⟨Kb, ko, none⟩) 1 cK] 47)
 have c1 := HK.out _ hBV
 rw [Nat.add_zero] at c1
 have HBV := Lib.hid hBV
 have HI0 := Lib.hid (HI0.out _ hBV)
 clear hB1 hBV HX HSQ
 go_wp2_with fail
 refine HI0.out.mono ?_
 rintro e w2 ⟨B2, R2, rfl, ht2, hB2⟩
 have hsz := HBV.out.size
 have HT2 := Lib.hid (ht2.down (lo' := w.heap.size) hsz)
 have HB2 := Lib.hid (HBV.out.trans (hB2.mono hsz))
 clear ht2 hB2 HI0 HBV HK c1 hsz x0 x1 x2 x3 x4
 go_wp2_with fail
 go_loopw [146] (fun v wr => ∃ i : Nat, v = .int .i64 (i : Nat) ∧ i ≤ nv ∧ Tab wr w.heap.size B2 R2 nv (diagT t0 i) ∧ Below w.heap.size w wr) (fun v _ => nv - (intOf v).toNat)
 case atStart => exact ⟨0, rfl, Nat.zero_le _, HT2.out.ext (fun i j _ _ => by unfold diagT; rw [decide_eq_false (Nat.not_lt_zero _), Bool.false_and, Bool.or_false]), HB2.out⟩
 case round =>
  obtain ⟨i, rfl, hin, ht, hB⟩ := hrel
  have HTi := Lib.hid ht
  have HB := Lib.hid hB
  by_cases hlt : i < nv
  ·have z1 := ht.outer hlt
   have z2 := ht.inner hlt hlt
   have f1 := own_fz (ht.row i hlt) i
   have HN := Lib.hid ((ht.set hlt hlt true).ext (fun a b _ _ => diag_next t0 i a b))
   have HBN := Lib.hid (hB.setCell (p := ⟨R2 i, i, none⟩) ((ht.row i hlt).lt (R2 i) rfl).1 (.bool true))
   clear ht hB
   go_wp2_with fail
   go_roundw
   case rel => exact ⟨i + 1, by simp, by omega, HN.out, HBN.out⟩
   case measure => (show nv - (i + 1) < nv - i; omega)
  ·obtain rfl : i = nv := by omega
   have HD := Lib.hid (HTi.out.ext (fun a b ha _ => diag_all t0 i a b ha))
   clear ht hB
   go_wp2_with fail
   go_loopw [10, 19] (fun v vk wq => ∃ (q k : Nat) (m : Tb) (B3 : Nat) (R3 : Nat → Nat), v = .slice (some ⟨B3, 0, none⟩) i i ∧ vk = .int .i64 (k : Nat) ∧ q < k ∧ 0 < k ∧ k ≤ 2000000 ∧ sqT i (i - q) k m = sqT i i 1 (idT t0) ∧ Tab wq w.heap.size B3 R3 i m ∧ Below w.heap.size w wq) (fun _ vk _ => i - (intOf vk).toNat)
   case atStart => exact ⟨0, 1, idT t0, B2, R2, rfl, rfl, by decide, by decide, by decide, rfl, HD.out, HB.out⟩
   case round =>
    obtain ⟨q, k, m, B3, R3, rfl, rfl, hqk, hk0, hk2, hsq, ht, hB⟩ := hrel
    have HT3 := Lib.hid ht
    have HB3 := Lib.hid hB
    by_cases hlt : k < i
    ·have HSQ := Lib.hid (show sqT i (i - (q + 1)) (k * 2) (prodT i m m) = sqT i i 1 (idT t0) by
      rw [← hsq, show i - q = (i - (q + 1)) + 1 by omega]
      conv => rhs; unfold sqT
      rw [if_pos hlt])
     have HP := Lib.hid (refProduct (some ⟨B3, 0, none⟩) (some ⟨B3, 0, none⟩) i i i i m m wr hnv (ht.reads (by omega)) (ht.reads (by omega)) (Nat.le_refl _) rfl (Nat.le_refl _))
     clear ht hB hsq
     go_wp2_with fail
     refine HP.out.mono ?_
     rintro e w4 ⟨B4, R4, rfl, ht4, hB4⟩
     have hsz := HB3.out.size
     have HT4 := Lib.hid (ht4.down (lo' := w.heap.size) hsz)
     have HB4 := Lib.hid (HB3.out.trans (hB4.mono hsz))
     clear ht4 hB4 hsz
     go_wp2_with fail
     go_roundw
     case rel => exact ⟨q + 1, k * 2, prodT i m m, B4, R4, rfl, by simp, by omega, by omega, by omega, HSQ.out, HT4.out, HB4.out⟩
     case measure => (show i - (k * 2) < i - k; omega)
    ·have HM := Lib.hid (show m = reachT (rxOf l ts vs) i (f + 1) at_ by
      rw [← HE.out, ← hsq]
      generalize i - q = g
      cases g with
      | zero => rfl
      | succ g => unfold sqT; rw [if_neg hlt])
     rw [HM.out] at HT3
     clear ht hB hsq
     go_wp2_with fail
     go_ret
     exact ⟨B3, R3, rfl, HT3.out, HB3.out⟩
end Go.Proofs.YtdbgaccnejffpaaGreat.Paths

namespace Go.Proofs.YtdbgaccnejffpaaGreat.Paths
open Go.RowKit Go.Proofs.YtdbgaccnejffpaaGreat.Ints Go.Proofs.YtdbgaccnejffpaaGreat.Mem Go.Proofs.YtdbgaccnejffpaaGreat.Src Go.Proofs.YtdbgaccnejffpaaGreat.Tree Go.Proofs.YtdbgaccnejffpaaGreat.BitsWalks Go.Proofs.YtdbgaccnejffpaaGreat.RdW
def partA (a b : Tb) (i j : Nat) : Tb := fun p q => (decide (p < i) || (decide (p = i) && decide (q < j))) && altT a b p q
theorem partA_start (a b : Tb) (p q : Nat) : partA a b 0 0 p q = false := by
 unfold partA
 rw [decide_eq_false (Nat.not_lt_zero p), decide_eq_false (Nat.not_lt_zero q), Bool.and_false, Bool.or_false, Bool.false_and]
theorem partA_step (a b : Tb) (i j p q : Nat) : updT (partA a b i j) i j (a i j || b i j) p q = partA a b i (j + 1) p q := by
 unfold updT partA
 by_cases e : p = i ∧ q = j
 ·obtain ⟨rfl, rfl⟩ := e
  rw [if_pos ⟨rfl, rfl⟩, decide_eq_true (Nat.lt_succ_self _), decide_eq_true rfl, Bool.and_self, Bool.or_true, Bool.true_and]
  rfl
 ·rw [if_neg e, show (decide (p = i) && decide (q < j + 1)) = (decide (p = i) && decide (q < j)) by
   rw [Bool.eq_iff_iff, Bool.and_eq_true, Bool.and_eq_true, decide_eq_true_eq, decide_eq_true_eq, decide_eq_true_eq]
   omega]
theorem partA_row (a b : Tb) (i n p q : Nat) (hq : q < n) : partA a b i n p q = partA a b (i + 1) 0 p q := by
 unfold partA
 rw [show (decide (p < i) || (decide (p = i) && decide (q < n))) = (decide (p < i + 1) || (decide (p = i + 1) && decide (q < 0))) by
  rw [Bool.eq_iff_iff, Bool.or_eq_true, Bool.or_eq_true, Bool.and_eq_true, Bool.and_eq_true, decide_eq_true_eq, decide_eq_true_eq, decide_eq_true_eq, decide_eq_true_eq, decide_eq_true_eq, decide_eq_true_eq]
  omega]
theorem partA_end (a b : Tb) (n p q : Nat) (hp : p < n) : partA a b n 0 p q = altT a b p q := by
 unfold partA
 rw [decide_eq_true hp, Bool.true_or, Bool.true_and]
set_option maxHeartbeats 8000000 in
set_option maxRecDepth 100000 in
theorem reach_alt (A T V : Option Addr) (n c nt ct nv cv at_ : Nat) (l : List Nd) (ts : List Int) (vs : Nat → List Nat) (w : World) (h : RIn w A n l T nt ts V nv vs) (hat : at_ < n) (hk : kindN l at_ = 20) (f : Nat)
  (ih : ∀ y, y < at_ → ∀ W, Below w.heap.size w W → Calls Tryz.prog 103 #[.slice A n c, .int .i64 (y : Nat), .slice T nt ct, .slice V nv cv] W (GotTab W nv (reachT (rxOf l ts vs) nv f y))) :
  Calls Tryz.prog 103 #[.slice A n c, .int .i64 (at_ : Nat), .slice T nt ct, .slice V nv cv] w (GotTab w nv (reachT (rxOf l ts vs) nv (f + 1) at_)) := by
 have q63 : maxLen = 9223372036854775807 := rfl
 have hs := h.small
 have hnv := h.nvs
 have HSQ := Lib.hid (refSquare nv w hnv)
 obtain ⟨b, off, nd, Kb, ko, cK, rfl, hkd, hcK, hlt, HX⟩ := node_kids h hat (m := 2) (by rw [hk]; rfl) (by decide)
 have HX := Lib.hid HX
 have HI0 := Lib.hid (ih (kidN l at_ 0) (hlt 0 (by decide)))
 have HI1 := Lib.hid (ih (kidN l at_ 1) (hlt 1 (by decide)))
 have HE := Lib.hid (show altT (reachT (rxOf l ts vs) nv f (kidN l at_ 0)) (reachT (rxOf l ts vs) nv f (kidN l at_ 1)) = reachT (rxOf l ts vs) nv (f + 1) at_ from by
  conv => rhs; unfold reachT
  have e : (rxOf l ts vs).kd at_ = 20 := hk
  rw [if_neg (by rw [e]; decide), if_neg (by rw [e]; decide), if_pos e]
  rfl)
 rw [hkd, hk] at HX
 obtain ⟨t0, ht0⟩ : ∃ t, reachT (rxOf l ts vs) nv f (kidN l at_ 0) = t := ⟨_, rfl⟩
 obtain ⟨t1, ht1⟩ : ∃ t, reachT (rxOf l ts vs) nv f (kidN l at_ 1) = t := ⟨_, rfl⟩
 have hl0 := hlt 0 (by decide)
 have hl1 := hlt 1 (by decide)
 rw [ht0] at HE HI0
 rw [ht1] at HE HI1
 have HK := Lib.hid (fun W (hb : Below w.heap.size w W) => And.intro ((HX.out W hb).2.2.2.2.2 0 (by decide)) ((HX.out W hb).2.2.2.2.2 1 (by decide)))
 obtain ⟨k0, hk0⟩ : ∃ t, kidN l at_ 0 = t := ⟨_, rfl⟩
 obtain ⟨k1, hk1⟩ : ∃ t, kidN l at_ 1 = t := ⟨_, rfl⟩
 rw [hk0] at HI0 HK hl0
 rw [hk1] at HI1 HK hl1
 clear h hlt ih hkd ht0 ht1 hk0 hk1
 go_enter Tryz.func103, Tryz.ntmps103
 go_wp2_with fail
 refine HSQ.out.mono ?_
 rintro e w1 ⟨B, R, rfl, ht1, hB1⟩
 have HT1 := Lib.hid ht1
 clear ht1
 obtain ⟨x0, x1, x2, x3, x4, -⟩ := HX.out _ hB1
 have HB1 := Lib.hid hB1
 clear hB1 HX HSQ
 go_wp2_with fail
 obtain ⟨V1, hV1⟩ : ∃ V1, w1.alloc (.cells #[.int .i64 20, .string nd.name, .int .i64 nd.lo, .int .i64 nd.hi, .slice (some ⟨Kb, ko, none⟩) 2 cK] 47) = V1 := ⟨_, rfl⟩
 have HBW := Lib.hid (show Below w1.heap.size w1 V1 by rw [← hV1]; exact (Below.refl _ w1).alloc (Nat.le_refl _) _)
 have HBV := Lib.hid (show Below w.heap.size w V1 by rw [← hV1]; exact HB1.out.alloc HB1.out.size _)
 have hblk : V1.heap[w1.heap.size]? = some (.cells #[.int .i64 20, .string nd.name, .int .i64 nd.lo, .int .i64 nd.hi, .slice (some ⟨Kb, ko, none⟩) 2 cK] 47 (0, 0)) := by rw [← hV1]; exact heap_alloc_new w1 _
 have c0 : V1.cell? ⟨w1.heap.size, 4, none⟩ = some (.slice (some ⟨Kb, ko, none⟩) 2 cK) := by
  rw [cell_of_row V1 w1.heap.size 4 _ _ _ hblk]
  rfl
 rw [hV1]
 clear hV1 hblk x0 x1 x2 x3 x4
 obtain ⟨c1, c2⟩ := HK.out V1 HBV.out
 rw [Nat.add_zero] at c1
 refine wp_region_held_drew (S := fun W => W.cell? ⟨w1.heap.size, 4, none⟩ = some (.slice (some ⟨Kb, ko, none⟩) 2 cK) ∧ W.cell? ⟨Kb, ko, none⟩ = some (.int .i64 (k0 : Nat)) ∧ W.cell? ⟨Kb, ko + 1, none⟩ = some (.int .i64 (k1 : Nat))) (by kernel_rfl) ⟨c0, c1, c2⟩ (fun hHeld => ?_)
 have HI0 := Lib.hid (HI0.out V1.drew HBV.out.drew)
 refine tkOp 0 hHeld ?_
 refine tkOp 1 hHeld ?_
 refine tkOp 2 hHeld ?_
 refine tkOp 3 hHeld ?_
 refine tkOp 4 hHeld ?_
 refine tkOp 5 hHeld ?_
 refine tkOp 6 hHeld ?_
 refine tkOp 8 hHeld ?_
 refine tkOp 9 hHeld ?_
 refine tkOp 10 hHeld ?_
 refine tkOp 11 hHeld ?_
 refine tkOp 12 hHeld ?_
 refine tkOp 13 hHeld ?_
 refine tkOp 14 hHeld ?_
 refine tkCall 7 (fun Kt hKt => ?_)
 go_simp
 (go_at_call 103; refine HI0.out.mono ?_; rintro e w2 ⟨B2, R2, rfl, ht2, hB2⟩; have HB2 := Lib.hid hB2; have HT2 := Lib.hid ht2; clear hB2 ht2; have HI1 := Lib.hid (HI1.out w2 (HBV.out.drew.trans (HB2.out.mono HBV.out.size))))
 refine hKt.out _ _ ?_ (fun hT => ?_)
 ·(exact ⟨Mem.below_cell HB2.out c0, Mem.below_cell HB2.out c1, Mem.below_cell HB2.out c2⟩)
 clear hKt Kt hHeld
 have hHeld := hT
 clear hT
 try simp only [Act.put, tkA, tkB, tkC]
 refine tkCall 15 (fun Kt hKt => ?_)
 go_simp
 (go_at_call 103; refine HI1.out.mono ?_; rintro e w3 ⟨B3, R3, rfl, ht3, hB3⟩; have HB3 := Lib.hid hB3; have HT3 := Lib.hid ht3; clear hB3 ht3)
 refine hKt.out _ _ ?_ (fun hT => ?_)
 ·(exact ⟨Mem.below_cell HB3.out (Mem.below_cell HB2.out c0), Mem.below_cell HB3.out (Mem.below_cell HB2.out c1), Mem.below_cell HB3.out (Mem.below_cell HB2.out c2)⟩)
 clear hKt Kt hHeld
 have hHeld := hT
 clear hT
 try simp only [Act.put, tkA, tkB, tkC]
 refine tkOp 16 hHeld ?_
 refine tkOp 17 hHeld ?_
 refine wpAnyH_done (by kernel_rfl) ?_ _
 have hs0 : w.heap.size ≤ w1.heap.size := HB1.out.size
 have hs1 : w1.heap.size ≤ V1.heap.size := HBW.out.size
 have hs2 : V1.heap.size ≤ w2.heap.size := HB2.out.size
 have hs3 : w2.heap.size ≤ w3.heap.size := HB3.out.size
 have HBE := Lib.hid ((HBV.out.drew.trans (HB2.out.mono (Nat.le_trans hs0 hs1))).trans (HB3.out.mono (Nat.le_trans (Nat.le_trans hs0 hs1) hs2)))
 have HTM := Lib.hid (((HT1.out.below (HBW.out.drew)).below HB2.out).below HB3.out)
 have HTA := Lib.hid ((HT2.out.below HB3.out).down (lo' := w1.heap.size) hs1)
 have HTB := Lib.hid (HT3.out.down (lo' := w1.heap.size) (Nat.le_trans hs1 hs2))
 have HR1 := Lib.hid (fun i (hi : i < nv) => (And.intro ((HT1.out.row i hi).lt (R i) rfl).1 ((HT1.out.row i hi).lt (R i) rfl).2))
 clear hHeld c0 c1 c2 hs0 hs1 hs2 hs3 HT1 HT2 HT3 HB1 HB2 HB3 HBV HBW HI0 HI1 HK hl0 hl1 hcK
 go_wp2_with fail
 go_loopw [85] (fun v wr => ∃ i : Nat, v = .int .i64 (i : Nat) ∧ i ≤ nv ∧ Tab wr w.heap.size B R nv (partA t0 t1 i 0) ∧ Below w.heap.size w wr ∧ Hid (∀ g, w1.heap.size ≤ g → wr.heap[g]? = w3.heap[g]?)) (fun v _ => nv - (intOf v).toNat)
 case atStart => exact ⟨0, rfl, Nat.zero_le _, HTM.out.ext (fun i j _ _ => (partA_start t0 t1 i j).symm), HBE.out, Lib.hid (fun g _ => rfl)⟩
 case round =>
  obtain ⟨i, rfl, hin, ht, hB, hkeep⟩ := hrel
  have HTi := Lib.hid ht
  have HBi := Lib.hid hB
  have HKi := Lib.hid hkeep.out
  clear ht hB hkeep
  by_cases hlt : i < nv
  ·obtain ⟨wo, hwo⟩ : ∃ wo, wr = wo := ⟨_, rfl⟩
   subst hwo
   go_wp2_with fail
   go_loopw [89] (fun v wr => ∃ j : Nat, v = .int .i64 (j : Nat) ∧ j ≤ nv ∧ Tab wr w.heap.size B R nv (partA t0 t1 i j) ∧ Below w.heap.size w wr ∧ Hid (∀ g, w1.heap.size ≤ g → wr.heap[g]? = w3.heap[g]?)) (fun v _ => nv - (intOf v).toNat)
   case atStart => exact ⟨0, rfl, Nat.zero_le _, HTi.out, HBi.out, Lib.hid HKi.out⟩
   case round =>
    obtain ⟨j, rfl, hjn, ht, hB, hkeep⟩ := hrel
    have HTj := Lib.hid ht
    have HBj := Lib.hid hB
    have HKj := Lib.hid hkeep.out
    by_cases hlj : j < nv
    ·have hta := HTA.out.kept (hkeep.out _ (HTA.out.out.lt B2 rfl).1) (fun a ha => hkeep.out _ ((HTA.out.row a ha).lt (R2 a) rfl).1)
     have htb := HTB.out.kept (hkeep.out _ (HTB.out.out.lt B3 rfl).1) (fun a ha => hkeep.out _ ((HTB.out.row a ha).lt (R3 a) rfl).1)
     have x1 := hta.outer hlt
     have x2 := hta.inner hlt hlj
     have y1 := htb.outer hlt
     have y2 := htb.inner hlt hlj
     have z1 := ht.outer hlt
     have z2 := ht.inner hlt hlj
     have z3 := own_fz (ht.row i hlt) j
     obtain ⟨va, hva⟩ : ∃ v, t0 i j = v := ⟨_, rfl⟩
     obtain ⟨vb, hvb⟩ : ∃ v, t1 i j = v := ⟨_, rfl⟩
     rw [hva] at x2
     rw [hvb] at y2
     have HN := Lib.hid (show ∀ x, x = (va || vb) → Tab (wr.setCell ⟨R i, j, none⟩ (.bool x)) w.heap.size B R nv (partA t0 t1 i (j + 1)) from fun x hx => (HTj.out.set hlt hlj x).ext (fun p q _ _ => by rw [hx, ← hva, ← hvb]; exact partA_step t0 t1 i j p q))
     have HBN := Lib.hid (fun x : Bool => hB.setCell (p := ⟨R i, j, none⟩) (HR1.out i hlt).1 (.bool x))
     have HKN := Lib.hid (fun (x : Bool) g (hg : w1.heap.size ≤ g) => (Below.heap_setCell wr ⟨R i, j, none⟩ (.bool x) g (by have := (HR1.out i hlt).2; show g ≠ R i; omega)).trans (hkeep.out g hg))
     clear ht hB hkeep hta htb hva hvb
     go_wp2_with fail
     cases va
     ·cases vb
      ·refine Late.drew [22] (S := fun W => W.cell? ⟨B, i, none⟩ = some (.slice (some ⟨R i, 0, none⟩) nv nv) ∧ W.cell? ⟨B2, i, none⟩ = some (.slice (some ⟨R2 i, 0, none⟩) nv nv) ∧ W.cell? ⟨R2 i, j, none⟩ = some (.bool false) ∧ W.cell? ⟨B3, i, none⟩ = some (.slice (some ⟨R3 i, 0, none⟩) nv nv) ∧ W.cell? ⟨R3 i, j, none⟩ = some (.bool false)) (by kernel_rfl) ⟨z1, x1, x2, y1, y2⟩ (fun hHeld => ?_)
       refine ltOp 0 hHeld ?_
       refine ltOp 1 hHeld ?_
       refine ltOp 2 hHeld ?_
       refine ltOp 3 hHeld ?_
       refine ltOp 4 hHeld ?_
       refine ltOp 5 hHeld ?_
       refine ltOp 6 hHeld ?_
       refine ltOp 7 hHeld ?_
       refine ltOp 8 hHeld ?_
       refine ltOp 9 hHeld ?_
       refine ltOp 10 hHeld ?_
       refine ltOp 11 hHeld ?_
       refine ltOp 12 hHeld ?_
       refine ltOp 13 hHeld ?_
       refine ltOp 14 hHeld ?_
       refine ltOp 15 hHeld ?_
       refine ltOp 16 hHeld ?_
       refine ltOp 17 hHeld ?_
       refine ltOp 18 hHeld ?_
       refine ltOp 19 hHeld ?_
       refine ltOp 20 hHeld ?_
       refine ltOp 21 hHeld ?_
       refine ltLast 22 (fun Kt hKt => ?_)
       go_simp
       refine hKt.out _ _ trivial (fun hT => ?_)
       clear hKt Kt hHeld
       have hHeld := hT
       clear hT
       try simp only [Act.put, tkA, tkB, tkC]
       refine wpAnyH_done (by kernel_rfl) ?_ _
       clear hHeld
       go_wp2_with fail
       go_roundw
       case rel => exact ⟨j + 1, by simp, by omega, (HN.out _ rfl).below (Below.refl _ _).drew, (HBN.out _).drew, Lib.hid (HKN.out _)⟩
       case measure => (show nv - (j + 1) < nv - j; omega)
      ·refine Late.drew [22] (S := fun W => W.cell? ⟨B, i, none⟩ = some (.slice (some ⟨R i, 0, none⟩) nv nv) ∧ W.cell? ⟨B2, i, none⟩ = some (.slice (some ⟨R2 i, 0, none⟩) nv nv) ∧ W.cell? ⟨R2 i, j, none⟩ = some (.bool false) ∧ W.cell? ⟨B3, i, none⟩ = some (.slice (some ⟨R3 i, 0, none⟩) nv nv) ∧ W.cell? ⟨R3 i, j, none⟩ = some (.bool true)) (by kernel_rfl) ⟨z1, x1, x2, y1, y2⟩ (fun hHeld => ?_)
       refine ltOp 0 hHeld ?_
       refine ltOp 1 hHeld ?_
       refine ltOp 2 hHeld ?_
       refine ltOp 3 hHeld ?_
       refine ltOp 4 hHeld ?_
       refine ltOp 5 hHeld ?_
       refine ltOp 6 hHeld ?_
       refine ltOp 7 hHeld ?_
       refine ltOp 8 hHeld ?_
       refine ltOp 9 hHeld ?_
       refine ltOp 10 hHeld ?_
       refine ltOp 11 hHeld ?_
       refine ltOp 12 hHeld ?_
       refine ltOp 13 hHeld ?_
       refine ltOp 14 hHeld ?_
       refine ltOp 15 hHeld ?_
       refine ltOp 16 hHeld ?_
       refine ltOp 17 hHeld ?_
       refine ltOp 18 hHeld ?_
       refine ltOp 19 hHeld ?_
       refine ltOp 20 hHeld ?_
       refine ltOp 21 hHeld ?_
       refine ltLast 22 (fun Kt hKt => ?_)
       go_simp
       refine hKt.out _ _ trivial (fun hT => ?_)
       clear hKt Kt hHeld
       have hHeld := hT
       clear hT
       try simp only [Act.put, tkA, tkB, tkC]
       refine wpAnyH_done (by kernel_rfl) ?_ _
       clear hHeld
       go_wp2_with fail
       go_roundw
       case rel => exact ⟨j + 1, by simp, by omega, (HN.out _ rfl).below (Below.refl _ _).drew, (HBN.out _).drew, Lib.hid (HKN.out _)⟩
       case measure => (show nv - (j + 1) < nv - j; omega)
     ·refine Late.drew [22] (S := fun W => W.cell? ⟨B, i, none⟩ = some (.slice (some ⟨R i, 0, none⟩) nv nv) ∧ W.cell? ⟨B2, i, none⟩ = some (.slice (some ⟨R2 i, 0, none⟩) nv nv) ∧ W.cell? ⟨R2 i, j, none⟩ = some (.bool true) ∧ W.cell? ⟨B3, i, none⟩ = some (.slice (some ⟨R3 i, 0, none⟩) nv nv) ∧ W.cell? ⟨R3 i, j, none⟩ = some (.bool vb)) (by kernel_rfl) ⟨z1, x1, x2, y1, y2⟩ (fun hHeld => ?_)
      refine ltOp 0 hHeld ?_
      refine ltOp 1 hHeld ?_
      refine ltOp 2 hHeld ?_
      refine ltOp 3 hHeld ?_
      refine ltOp 4 hHeld ?_
      refine ltOp 5 hHeld ?_
      refine ltOp 6 hHeld ?_
      refine ltOp 7 hHeld ?_
      refine ltOp 8 hHeld ?_
      refine ltOp 9 hHeld ?_
      refine ltOp 10 hHeld ?_
      refine ltOp 11 hHeld ?_
      refine ltOp 12 hHeld ?_
      refine Late.take (i := 13) (oi := ?tko78) (v := undef) ?tkh78 (by kernel_rfl) (by kernel_rfl) (by kernel_rfl) (by kernel_rfl) ?tkq78 ?tky78 hHeld ?tkr78
      case tkh78 => (simp only [List.getElem?_toArray, List.getElem?_cons_succ, List.getElem?_cons_zero]; rfl)
      case tkq78 => exact fun _ _ _ h => h
      case tky78 => exact Or.inr ⟨by rfl, rfl⟩
      try simp only [Act.put, List.setIfInBounds_toArray, List.set_cons_zero, List.set_cons_succ]
      refine Late.take (i := 14) (oi := ?tko79) (v := undef) ?tkh79 (by kernel_rfl) (by kernel_rfl) (by kernel_rfl) (by kernel_rfl) ?tkq79 ?tky79 hHeld ?tkr79
      case tkh79 => (simp only [List.getElem?_toArray, List.getElem?_cons_succ, List.getElem?_cons_zero]; rfl)
      case tkq79 => exact fun _ _ _ h => h
      case tky79 => exact Or.inr ⟨by rfl, rfl⟩
      try simp only [Act.put, List.setIfInBounds_toArray, List.set_cons_zero, List.set_cons_succ]
      refine Late.take (i := 15) (oi := ?tko80) (v := undef) ?tkh80 (by kernel_rfl) (by kernel_rfl) (by kernel_rfl) (by kernel_rfl) ?tkq80 ?tky80 hHeld ?tkr80
      case tkh80 => (simp only [List.getElem?_toArray, List.getElem?_cons_succ, List.getElem?_cons_zero]; rfl)
      case tkq80 => exact fun _ _ _ h => h
      case tky80 => exact Or.inr ⟨by rfl, rfl⟩
      try simp only [Act.put, List.setIfInBounds_toArray, List.set_cons_zero, List.set_cons_succ]
      refine Late.take (i := 16) (oi := ?tko81) (v := undef) ?tkh81 (by kernel_rfl) (by kernel_rfl) (by kernel_rfl) (by kernel_rfl) ?tkq81 ?tky81 hHeld ?tkr81
      case tkh81 => (simp only [List.getElem?_toArray, List.getElem?_cons_succ, List.getElem?_cons_zero]; rfl)
      case tkq81 => exact fun _ _ _ h => h
      case tky81 => exact Or.inr ⟨by rfl, rfl⟩
      try simp only [Act.put, List.setIfInBounds_toArray, List.set_cons_zero, List.set_cons_succ]
      refine Late.take (i := 17) (oi := ?tko82) (v := undef) ?tkh82 (by kernel_rfl) (by kernel_rfl) (by kernel_rfl) (by kernel_rfl) ?tkq82 ?tky82 hHeld ?tkr82
      case tkh82 => (simp only [List.getElem?_toArray, List.getElem?_cons_succ, List.getElem?_cons_zero]; rfl)
      case tkq82 => exact fun _ _ _ h => h
      case tky82 => exact Or.inr ⟨by rfl, rfl⟩
      try simp only [Act.put, List.setIfInBounds_toArray, List.set_cons_zero, List.set_cons_succ]
      refine Late.take (i := 18) (oi := ?tko83) (v := undef) ?tkh83 (by kernel_rfl) (by kernel_rfl) (by kernel_rfl) (by kernel_rfl) ?tkq83 ?tky83 hHeld ?tkr83
      case tkh83 => (simp only [List.getElem?_toArray, List.getElem?_cons_succ, List.getElem?_cons_zero]; rfl)
      case tkq83 => exact fun _ _ _ h => h
      case tky83 => exact Or.inr ⟨by rfl, rfl⟩
      try simp only [Act.put, List.setIfInBounds_toArray, List.set_cons_zero, List.set_cons_succ]
      refine Late.take (i := 19) (oi := ?tko84) (v := undef) ?tkh84 (by kernel_rfl) (by kernel_rfl) (by kernel_rfl) (by kernel_rfl) ?tkq84 ?tky84 hHeld ?tkr84
      case tkh84 => (simp only [List.getElem?_toArray, List.getElem?_cons_succ, List.getElem?_cons_zero]; rfl)
      case tkq84 => exact fun _ _ _ h => h
      case tky84 => exact Or.inr ⟨by rfl, rfl⟩
      try simp only [Act.put, List.setIfInBounds_toArray, List.set_cons_zero, List.set_cons_succ]
      refine ltOp 20 hHeld ?_
      refine ltOp 21 hHeld ?_
      refine ltLast 22 (fun Kt hKt => ?_)
      go_simp
      refine hKt.out _ _ trivial (fun hT => ?_)
      clear hKt Kt hHeld
      have hHeld := hT
      clear hT
      try simp only [Act.put, tkA, tkB, tkC]
      refine wpAnyH_done (by kernel_rfl) ?_ _
      clear hHeld
      go_wp2_with fail
      go_roundw
      case rel => exact ⟨j + 1, by simp, by omega, (HN.out _ rfl).below (Below.refl _ _).drew, (HBN.out _).drew, Lib.hid (HKN.out _)⟩
      case measure => (show nv - (j + 1) < nv - j; omega)
    ·obtain rfl : j = nv := by omega
     clear ht hB hkeep
     go_wp2_with fail
     go_roundw
     case rel => exact ⟨i + 1, by simp, by omega, HTj.out.ext (fun p q _ hq => partA_row t0 t1 i j p q hq), HBj.out, Lib.hid HKj.out⟩
     case measure => (show j - (i + 1) < j - i; omega)
  ·obtain rfl : i = nv := by omega
   have HX := Lib.hid (HTi.out.ext (m' := altT t0 t1) (fun p q hp _ => partA_end t0 t1 i p q hp))
   rw [HE.out] at HX
   go_wp2_with fail
   go_ret
   exact ⟨B, R, rfl, HX.out, HBi.out⟩
end Go.Proofs.YtdbgaccnejffpaaGreat.Paths

namespace Go.Proofs.YtdbgaccnejffpaaGreat.Paths
open Go.RowKit Go.Proofs.YtdbgaccnejffpaaGreat.Ints Go.Proofs.YtdbgaccnejffpaaGreat.Mem Go.Proofs.YtdbgaccnejffpaaGreat.Src Go.Proofs.YtdbgaccnejffpaaGreat.Tree Go.Proofs.YtdbgaccnejffpaaGreat.BitsWalks Go.Proofs.YtdbgaccnejffpaaGreat.RdW
set_option maxHeartbeats 8000000 in
set_option maxRecDepth 100000 in
theorem reach_none (A T V : Option Addr) (n c nt ct nv cv at_ : Nat) (l : List Nd) (ts : List Int) (vs : Nat → List Nat) (w : World) (h : RIn w A n l T nt ts V nv vs) (hat : at_ < n) (hk : kindN l at_ ≠ 18 ∧ kindN l at_ ≠ 19 ∧ kindN l at_ ≠ 20 ∧ kindN l at_ ≠ 21 ∧ kindN l at_ ≠ 22) (f : Nat) :
  Calls Tryz.prog 103 #[.slice A n c, .int .i64 (at_ : Nat), .slice T nt ct, .slice V nv cv] w (GotTab w nv (reachT (rxOf l ts vs) nv (f + 1) at_)) := by
 have hl := h.len
 have hs := h.small
 have hnv := h.nvs
 have HSQ := Lib.hid (refSquare nv w hnv)
 obtain ⟨b, off, rfl, hns⟩ := h.nodes (by omega)
 obtain ⟨nd, hnd⟩ : ∃ nd, l[at_]? = some nd := ⟨_, List.getElem?_eq_getElem (by omega)⟩
 have HE := Lib.hid (show (fun _ _ => false) = reachT (rxOf l ts vs) nv (f + 1) at_ from by
  unfold reachT
  rw [if_neg (show ¬ (rxOf l ts vs).kd at_ = 18 from hk.1), if_neg (show ¬ (rxOf l ts vs).kd at_ = 19 from hk.2.1), if_neg (show ¬ (rxOf l ts vs).kd at_ = 20 from hk.2.2.1), if_neg (show ¬ (rxOf l ts vs).kd at_ = 21 from hk.2.2.2.1), if_neg (show ¬ (rxOf l ts vs).kd at_ = 22 from hk.2.2.2.2)])
 rw [kind_of hnd] at hk
 have HX := Lib.hid (show ∀ W, Below w.heap.size w W → ∃ K cK, W.cell? ⟨b, off + at_ * 5, none⟩ = some (.int .i64 nd.kind) ∧ W.cell? ⟨b, off + at_ * 5 + 1, none⟩ = some (.string nd.name) ∧ W.cell? ⟨b, off + at_ * 5 + 2, none⟩ = some (.int .i64 nd.lo) ∧ W.cell? ⟨b, off + at_ * 5 + 3, none⟩ = some (.int .i64 nd.hi) ∧ W.cell? ⟨b, off + at_ * 5 + 4, none⟩ = some (.slice K nd.kids.length cK) from fun W hb => by
  obtain ⟨x0, x1, x2, x3, s0, s2, s3, s1, K, cK, x4, -⟩ := hns at_ nd hnd
  rw [Nat.mul_comm 5 at_] at x0 x1 x2 x3 x4
  exact ⟨K, cK, Mem.below_cell hb x0, Mem.below_cell hb x1, Mem.below_cell hb x2, Mem.below_cell hb x3, Mem.below_cell hb x4⟩)
 obtain ⟨k, hkk⟩ : ∃ k, nd.kind = k := ⟨_, rfl⟩
 rw [hkk] at HX hk
 obtain ⟨e1, e2, e3, e4, e5⟩ : (k == 18) = false ∧ (k == 19) = false ∧ (k == 20) = false ∧ (k == 21) = false ∧ (k == 22) = false := by simp only [beq_eq_false_iff_ne]; exact hk
 clear h hns hnd hk hkk
 go_enter Tryz.func103, Tryz.ntmps103
 go_wp2_with fail
 refine HSQ.out.mono ?_
 rintro e w1 ⟨B, R, rfl, ht, hB1⟩
 obtain ⟨K, cK, x0, x1, x2, x3, x4⟩ := HX.out _ hB1
 have HT := Lib.hid ht
 have HB1 := Lib.hid hB1
 rw [HE.out] at HT
 clear ht hB1 HX HSQ
 go_wp2_with fail
 go_ret
 exact ⟨B, R, rfl, HT.out.below ((Below.refl _ w1).alloc (Nat.le_refl _) _), HB1.out.alloc HB1.out.size _⟩
theorem refReach1 (A T V : Option Addr) (n c nt ct nv cv : Nat) (l : List Nd) (ts : List Int) (vs : Nat → List Nat) (htc : nt ≤ ct) : ∀ (at_ f : Nat) (w : World), RIn w A n l T nt ts V nv vs → at_ < n → at_ < f →
  Calls Tryz.prog 103 #[.slice A n c, .int .i64 (at_ : Nat), .slice T nt ct, .slice V nv cv] w (GotTab w nv (reachT (rxOf l ts vs) nv f at_)) := by
 intro at_
 induction at_ using Nat.strongRecOn with
 | ind at_ ih =>
  intro f w h hat hf
  obtain ⟨f, rfl⟩ : ∃ q, f = q + 1 := ⟨f - 1, by omega⟩
  have go : ∀ y, y < at_ → ∀ W, Below w.heap.size w W → Calls Tryz.prog 103 #[.slice A n c, .int .i64 (y : Nat), .slice T nt ct, .slice V nv cv] W (GotTab W nv (reachT (rxOf l ts vs) nv f y)) := fun y hy W hb => ih y hy f W (h.below hb) (by omega) (by omega)
  by_cases h1 : kindN l at_ = 18
  ·exact reach_step A T V n c nt ct nv cv at_ l ts vs w h hat h1 f
  by_cases h2 : kindN l at_ = 19
  ·exact reach_test A T V n c nt ct nv cv at_ l ts vs w h htc hat h2 f
  by_cases h3 : kindN l at_ = 20
  ·exact reach_alt A T V n c nt ct nv cv at_ l ts vs w h hat h3 f go
  by_cases h4 : kindN l at_ = 21
  ·exact reach_seq A T V n c nt ct nv cv at_ l ts vs w h hat h4 f go
  by_cases h5 : kindN l at_ = 22
  ·exact reach_many A T V n c nt ct nv cv at_ l ts vs w h hat h5 f go
  exact reach_none A T V n c nt ct nv cv at_ l ts vs w h hat ⟨h1, h2, h3, h4, h5⟩ f
end Go.Proofs.YtdbgaccnejffpaaGreat.Paths

namespace Go.Proofs.YtdbgaccnejffpaaGreat.Paths
open Go.RowKit Go.Proofs.YtdbgaccnejffpaaGreat.Ints Go.Proofs.YtdbgaccnejffpaaGreat.Mem Go.Proofs.YtdbgaccnejffpaaGreat.Src Go.Proofs.YtdbgaccnejffpaaGreat.Tree Go.Proofs.YtdbgaccnejffpaaGreat.BitsWalks Go.Proofs.YtdbgaccnejffpaaGreat.RdW
def idxI (l : List Nat) : List Int := l.map fun i => ((i : Nat) : Int)
def tableR (l : List Nd) (vs : Nat → List Nat) (nv : Nat) : Tb := reachT (rxOf l (idxI (placesR l 19)) vs) nv l.length (l.length - 1)
def GotR (w : World) (reg : Bool) (nv : Nat) (m : Tb) (e : Ending) (w' : World) : Prop := if reg = true then GotTab w nv m e w' else e = .returned (.slice none 0 0) ∧ Below w.heap.size w w'
theorem gotR_yes {reg : Bool} (h : reg = true) (w : World) (nv : Nat) (m : Tb) : GotR w reg nv m = GotTab w nv m := by funext e w'; unfold GotR; rw [if_pos h]
theorem gotR_no {reg : Bool} (h : ¬ reg = true) (w : World) (nv : Nat) (m : Tb) : GotR w reg nv m = fun e w' => e = .returned (.slice none 0 0) ∧ Below w.heap.size w w' := by funext e w'; unfold GotR; rw [if_neg h]
theorem places_len (l : List Nd) (kd : Int) : (placesR l kd).length ≤ l.length := by
 unfold placesR placesL
 split
 ·have := List.length_filter_le (fun i => decide (kindN l i = kd) && !insideB l i) (List.range l.length)
  rwa [List.length_range] at this
 ·exact Nat.zero_le _
set_option maxHeartbeats 8000000 in
set_option maxRecDepth 100000 in
theorem refReach (A V : Option Addr) (n c nv cv : Nat) (l : List Nd) (vs : Nat → List Nat) (w : World) (hl : l.length = n) (hnc : n ≤ c) (hn : n ≤ 1048576) (h : Nodes Tree.Any w A l) (hv : RdV w V nv vs) (hnv : nv ≤ 1000000) :
  Calls Tryz.prog 62 #[.slice A n c, .slice V nv cv] w (GotR w (regL l) nv (tableR l vs nv)) := by
 have HREG := Lib.hid (refReg A n c l w hl hn h)
 by_cases hreg : regL l = true
 rotate_left
 ·have hr : regL l = false := Bool.eq_false_iff.2 hreg
  rw [gotR_no hreg]
  rw [hr] at HREG
  clear hreg hr h hv
  go_enter Tryz.func62, Tryz.ntmps62
  go_wp2_with fail
  refine HREG.out.mono ?_
  rintro e w1 ⟨rfl, hB1⟩
  go_wp2_with fail
  go_ret
  exact ⟨rfl, hB1⟩
 have hm : mayL l = true := by unfold regL at hreg; rw [Bool.and_eq_true] at hreg; exact hreg.1
 have h0 : 0 < n := by
  rcases Nat.eq_zero_or_pos n with e | e
  ·exfalso
   obtain rfl : l = [] := List.eq_nil_of_length_eq_zero (by omega)
   revert hm
   decide
  ·exact e
 rw [gotR_yes hreg]
 rw [hreg] at HREG
 have HT := Lib.hid (fun W (hb : Below w.heap.size w W) => refTests A n c l W hl hnc hn (h.below hb))
 have hpl := places_len l 19
 rw [hl] at hpl
 obtain ⟨ps, hps⟩ : ∃ ps, placesR l 19 = ps := ⟨_, rfl⟩
 have HR := Lib.hid (fun (T : Option Addr) (ct : Nat) (W : World) (hct : ps.length ≤ ct) (hb : Below w.heap.size w W) (hr : Rd .i64 W T ps.length (idxI ps)) => refReach1 A T V n c ps.length ct nv cv l (idxI ps) vs hct (n - 1) n W ⟨h.below hb, hm, hl, hn, hr, by rw [hps] at hpl; omega, hv.below hb, hnv⟩ (by omega) (by omega))
 have HE := Lib.hid (show reachT (rxOf l (idxI ps) vs) nv n (n - 1) = tableR l vs nv by unfold tableR; rw [hps, hl])
 rw [HE.out] at HR
 rw [hps] at HT
 have hn1 : ((n : Nat) : Int) - 1 = ((n - 1 : Nat) : Int) := by omega
 clear h hv hreg hm hps hpl
 go_enter Tryz.func62, Tryz.ntmps62
 go_wp2_with fail
 refine HREG.out.mono ?_
 rintro e w1 ⟨rfl, hB1⟩
 have HB1 := Lib.hid hB1
 clear hB1 HREG
 go_wp2_with fail
 refine (HT.out w1 HB1.out).mono ?_
 rintro e w2 ⟨T, ct, rfl, hrd, hct, hcm, hB2, -⟩
 have hsz := HB1.out.size
 have HBE := Lib.hid (HB1.out.trans (hB2.mono hsz))
 have HR2 := Lib.hid (HR.out T ct w2 hct HBE.out hrd)
 clear hrd hB2 HB1 HT HR
 go_wp2_with fail
 refine HR2.out.mono ?_
 rintro e w3 ⟨B, R, rfl, ht, hB3⟩
 have HTT := Lib.hid (ht.down (lo' := w.heap.size) HBE.out.size)
 have HB3 := Lib.hid (HBE.out.trans (hB3.mono HBE.out.size))
 clear ht hB3 HR2
 go_wp2_with fail
 go_ret
 exact ⟨B, R, rfl, HTT.out, HB3.out⟩
end Go.Proofs.YtdbgaccnejffpaaGreat.Paths
