/-
  The reference's reach, node by node: any number of times (stage 14). By an AI agent.
-/
import Derived.Test.YtcpmcgbjmncalaaGPathsParts12
namespace Go.Proofs.Ytcpmcgbjmncalaa.Paths
open Go.RowKit Go.Proofs.Ytcpmcgbjmncalaa.Ints Go.Proofs.Ytcpmcgbjmncalaa.Mem Go.Proofs.Ytcpmcgbjmncalaa.Src Go.Proofs.Ytcpmcgbjmncalaa.Tree Go.Proofs.Ytcpmcgbjmncalaa.BitsWalks Go.Proofs.Ytcpmcgbjmncalaa.RdW

/-- A table whose diagonal is being filled. -/
def diagT (a : Tb) (k : Nat) : Tb := fun i j => a i j || (decide (i < k) && decide (i = j))
theorem diag_next (a : Tb) (k i j : Nat) : updT (diagT a k) k k true i j = diagT a (k + 1) i j := by
  unfold updT diagT
  by_cases e : i = k ∧ j = k
  · obtain ⟨rfl, rfl⟩ := e
    rw [if_pos ⟨rfl, rfl⟩, decide_eq_true (Nat.lt_succ_self _), decide_eq_true rfl, Bool.and_self, Bool.or_true]
  · rw [if_neg e, show (decide (i < k + 1) && decide (i = j)) = (decide (i < k) && decide (i = j)) by
      rw [Bool.eq_iff_iff, Bool.and_eq_true, Bool.and_eq_true, decide_eq_true_eq, decide_eq_true_eq, decide_eq_true_eq]
      omega]
theorem diag_all (a : Tb) (n i j : Nat) (hi : i < n) : diagT a n i j = idT a i j := by
  unfold diagT idT
  rw [decide_eq_true hi, Bool.true_and]
set_option maxHeartbeats 8000000 in
set_option maxRecDepth 100000 in
theorem reach_many (A T V : Option Addr) (n c nt ct nv cv at_ : Nat) (l : List Nd) (ts : List Int) (vs : Nat → List Nat) (w : World) (h : RIn w A n l T nt ts V nv vs) (hat : at_ < n) (hk : kindN l at_ = 22) (f : Nat)
    (ih : ∀ y, y < at_ → ∀ W, Below w.heap.size w W → Calls Try.prog 35 #[.slice A n c, .int .i64 (y : Nat), .slice T nt ct, .slice V nv cv] W (GotTab W nv (reachT (rxOf l ts vs) nv f y))) :
    Calls Try.prog 35 #[.slice A n c, .int .i64 (at_ : Nat), .slice T nt ct, .slice V nv cv] w (GotTab w nv (reachT (rxOf l ts vs) nv (f + 1) at_)) := by
  have q63 : maxLen = 9223372036854775807 := rfl
  have hs := h.small
  have hnv := h.nvs
  have HSQ := Lib.hid (refSquare nv w hnv)
  obtain ⟨b, off, nd, Kb, ko, cK, rfl, hkd, hcK, hlt, HX⟩ := node_kids h hat (m := 1) (by rw [hk]; rfl) (by decide)
  have HX := Lib.hid HX
  have HI0 := Lib.hid (ih (kidN l at_ 0) (hlt 0 (by decide)))
  have HE := Lib.hid (show sqT nv nv 1 (idT (reachT (rxOf l ts vs) nv f (kidN l at_ 0))) = reachT (rxOf l ts vs) nv (f + 1) at_ from by
    conv => rhs; unfold reachT
    have e : (rxOf l ts vs).kd at_ = 22 := hk
    rw [if_neg (by rw [e]; decide), if_neg (by rw [e]; decide), if_neg (by rw [e]; decide), if_neg (by rw [e]; decide), if_pos e]
    rfl)
  rw [hkd, hk] at HX
  obtain ⟨t0, ht0⟩ : ∃ t, reachT (rxOf l ts vs) nv f (kidN l at_ 0) = t := ⟨_, rfl⟩
  have hl0 := hlt 0 (by decide)
  rw [ht0] at HE HI0
  have HK := Lib.hid (fun W (hb : Below w.heap.size w W) => (HX.out W hb).2.2.2.2.2 0 (by decide))
  obtain ⟨k0, hk0⟩ : ∃ t, kidN l at_ 0 = t := ⟨_, rfl⟩
  rw [hk0] at HI0 HK hl0
  clear h hlt ih hkd ht0 hk0
  go_enter Try.func35, Try.ntmps35
  go_wp2_with fail
  refine HSQ.out.mono ?_
  rintro e w1 ⟨B, R, rfl, -, hB1⟩
  obtain ⟨x0, x1, x2, x3, x4, -⟩ := HX.out _ hB1
  have hBV := hB1.alloc hB1.size (.cells #[.int .i64 22, .string nd.name, .int .i64 nd.lo, .int .i64 nd.hi, .slice (some ⟨Kb, ko, none⟩) 1 cK] 42)
  have c1 := HK.out _ hBV
  rw [Nat.add_zero] at c1
  have HBV := Lib.hid hBV
  have HI0 := Lib.hid (HI0.out _ hBV)
  clear hB1 hBV HX HSQ
  go_wp2_with fail
  refine HI0.out.mono ?_
  rintro e w2 ⟨B2, R2, rfl, ht2, hB2⟩
  have hsz := HBV.out.size
  have HT2 := Lib.hid (ht2.down (lo' := w.heap.size) hsz)
  have HB2 := Lib.hid (HBV.out.trans (hB2.mono hsz))
  clear ht2 hB2 HI0 HBV HK c1 hsz x0 x1 x2 x3 x4
  go_wp2_with fail
  go_loopw [146] (fun v wr => ∃ i : Nat, v = .int .i64 (i : Nat) ∧ i ≤ nv ∧ Tab wr w.heap.size B2 R2 nv (diagT t0 i) ∧ Below w.heap.size w wr) (fun v _ => nv - (intOf v).toNat)
  case atStart => exact ⟨0, rfl, Nat.zero_le _, HT2.out.ext (fun i j _ _ => by unfold diagT; rw [decide_eq_false (Nat.not_lt_zero _), Bool.false_and, Bool.or_false]), HB2.out⟩
  case round =>
    obtain ⟨i, rfl, hin, ht, hB⟩ := hrel
    have HTi := Lib.hid ht
    have HB := Lib.hid hB
    by_cases hlt : i < nv
    · have z1 := ht.outer hlt
      have z2 := ht.inner hlt hlt
      have f1 := own_fz (ht.row i hlt) i
      have HN := Lib.hid ((ht.set hlt hlt true).ext (fun a b _ _ => diag_next t0 i a b))
      have HBN := Lib.hid (hB.setCell (p := ⟨R2 i, i, none⟩) ((ht.row i hlt).lt (R2 i) rfl).1 (.bool true))
      clear ht hB
      go_wp2_with fail
      go_roundw
      case rel => exact ⟨i + 1, by simp, by omega, HN.out, HBN.out⟩
      case measure => (show nv - (i + 1) < nv - i; omega)
    · obtain rfl : i = nv := by omega
      have HD := Lib.hid (HTi.out.ext (fun a b ha _ => diag_all t0 i a b ha))
      clear ht hB
      go_wp2_with fail
      go_loopw [10, 19] (fun v vk wq => ∃ (q k : Nat) (m : Tb) (B3 : Nat) (R3 : Nat → Nat), v = .slice (some ⟨B3, 0, none⟩) i i ∧ vk = .int .i64 (k : Nat) ∧ q < k ∧ 0 < k ∧ k ≤ 2000000 ∧ sqT i (i - q) k m = sqT i i 1 (idT t0) ∧ Tab wq w.heap.size B3 R3 i m ∧ Below w.heap.size w wq) (fun _ vk _ => i - (intOf vk).toNat)
      case atStart => exact ⟨0, 1, idT t0, B2, R2, rfl, rfl, by decide, by decide, by decide, rfl, HD.out, HB.out⟩
      case round =>
        obtain ⟨q, k, m, B3, R3, rfl, rfl, hqk, hk0, hk2, hsq, ht, hB⟩ := hrel
        have HT3 := Lib.hid ht
        have HB3 := Lib.hid hB
        by_cases hlt : k < i
        · have HSQ := Lib.hid (show sqT i (i - (q + 1)) (k * 2) (prodT i m m) = sqT i i 1 (idT t0) by
            rw [← hsq, show i - q = (i - (q + 1)) + 1 by omega]
            conv => rhs; unfold sqT
            rw [if_pos hlt])
          have HP := Lib.hid (refProduct (some ⟨B3, 0, none⟩) (some ⟨B3, 0, none⟩) i i i i m m wr hnv (ht.reads (by omega)) (ht.reads (by omega)) (Nat.le_refl _) rfl (Nat.le_refl _))
          clear ht hB hsq
          go_wp2_with fail
          refine HP.out.mono ?_
          rintro e w4 ⟨B4, R4, rfl, ht4, hB4⟩
          have hsz := HB3.out.size
          have HT4 := Lib.hid (ht4.down (lo' := w.heap.size) hsz)
          have HB4 := Lib.hid (HB3.out.trans (hB4.mono hsz))
          clear ht4 hB4 hsz
          go_wp2_with fail
          go_roundw
          case rel => exact ⟨q + 1, k * 2, prodT i m m, B4, R4, rfl, by simp, by omega, by omega, by omega, HSQ.out, HT4.out, HB4.out⟩
          case measure => (show i - (k * 2) < i - k; omega)
        · have HM := Lib.hid (show m = reachT (rxOf l ts vs) i (f + 1) at_ by
            rw [← HE.out, ← hsq]
            generalize i - q = g
            cases g with
            | zero => rfl
            | succ g => unfold sqT; rw [if_neg hlt])
          rw [HM.out] at HT3
          clear ht hB hsq
          go_wp2_with fail
          go_ret
          exact ⟨B3, R3, rfl, HT3.out, HB3.out⟩
end Go.Proofs.Ytcpmcgbjmncalaa.Paths
