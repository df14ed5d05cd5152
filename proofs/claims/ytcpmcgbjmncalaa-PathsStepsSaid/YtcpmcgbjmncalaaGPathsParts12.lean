/-
  The reference's reach, node by node: tests (stage 14). By an AI agent.
  The reference's reach, node by node: two kids, one after the other (stage 14). By an AI agent.
-/
import Derived.Test.YtcpmcgbjmncalaaGPathsParts11
import Derived.Test.YtcpmcgbjmncalaaGPathsParts3
import Derived.Test.YtcpmcgbjmncalaaGPathsParts4
namespace Go.Proofs.Ytcpmcgbjmncalaa.Paths
open Go.RowKit Go.Proofs.Ytcpmcgbjmncalaa.Ints Go.Proofs.Ytcpmcgbjmncalaa.Mem Go.Proofs.Ytcpmcgbjmncalaa.Src Go.Proofs.Ytcpmcgbjmncalaa.Tree Go.Proofs.Ytcpmcgbjmncalaa.BitsWalks Go.Proofs.Ytcpmcgbjmncalaa.RdW

theorem RdV.below {w w' : World} {V : Option Addr} {n : Nat} {vs : Nat → List Nat} (h : RdV w V n vs) (hb : Below w.heap.size w w') : RdV w' V n vs := fun h0 => by
  obtain ⟨b, off, e, hc⟩ := h h0
  refine ⟨b, off, e, fun i hi => ?_⟩
  obtain ⟨K, q, c, x, hr, hq, hm⟩ := hc i hi
  exact ⟨K, q, c, Mem.below_cell hb x, hr.below hb, hq, hm⟩
theorem num_le (zs : List Int) (x : Int) : numT zs x ≤ (zs.length : Nat) ∧ -1 ≤ numT zs x := by
  unfold numT
  split <;> omega
/-- A table of tests while it is being filled. -/
def testT (h : Nat → Bool) (k : Nat) : Tb := fun i j => decide (i < k) && decide (j = i) && h i
theorem test_next (h : Nat → Bool) (k i j : Nat) : updT (testT h k) k k (h k) i j = testT h (k + 1) i j := by
  unfold updT testT
  by_cases e : i = k ∧ j = k
  · obtain ⟨rfl, rfl⟩ := e
    rw [if_pos ⟨rfl, rfl⟩, decide_eq_true (by omega), decide_eq_true rfl]; rfl
  · rw [if_neg e, show (decide (i < k + 1) && decide (j = i)) = (decide (i < k) && decide (j = i)) by
      rw [Bool.eq_iff_iff, Bool.and_eq_true, Bool.and_eq_true, decide_eq_true_eq, decide_eq_true_eq, decide_eq_true_eq]
      omega]
set_option maxHeartbeats 8000000 in
set_option maxRecDepth 100000 in
theorem reach_test (A T V : Option Addr) (n c nt ct nv cv at_ : Nat) (l : List Nd) (ts : List Int) (vs : Nat → List Nat) (w : World) (h : RIn w A n l T nt ts V nv vs) (htc : nt ≤ ct) (hat : at_ < n) (hk : kindN l at_ = 19) (f : Nat) :
    Calls Try.prog 35 #[.slice A n c, .int .i64 (at_ : Nat), .slice T nt ct, .slice V nv cv] w (GotTab w nv (reachT (rxOf l ts vs) nv (f + 1) at_)) := by
  have hl := h.len
  have hs := h.small
  have hnv := h.nvs
  have HSQ := Lib.hid (refSquare nv w hnv)
  have HV := Lib.hid h.vals
  have HNUM := Lib.hid (fun W (hb : Below w.heap.size w W) => refNumber T nt ct ts (at_ : Nat) W (Rd.below h.tests hb) htc h.nts)
  have hnl := num_le ts (at_ : Nat)
  rw [h.tests.len] at hnl
  have hnts := h.nts
  obtain ⟨b, off, rfl, hns⟩ := h.nodes (by omega)
  obtain ⟨nd, hnd⟩ : ∃ nd, l[at_]? = some nd := ⟨_, List.getElem?_eq_getElem (by omega)⟩
  have hkd : nd.kind = 19 := by rw [← kind_of hnd]; exact hk
  have HX := Lib.hid (show ∀ W, Below w.heap.size w W → ∃ K cK, W.cell? ⟨b, off + at_ * 5, none⟩ = some (.int .i64 nd.kind) ∧ W.cell? ⟨b, off + at_ * 5 + 1, none⟩ = some (.string nd.name) ∧ W.cell? ⟨b, off + at_ * 5 + 2, none⟩ = some (.int .i64 nd.lo) ∧ W.cell? ⟨b, off + at_ * 5 + 3, none⟩ = some (.int .i64 nd.hi) ∧ W.cell? ⟨b, off + at_ * 5 + 4, none⟩ = some (.slice K nd.kids.length cK) from fun W hb => by
    obtain ⟨x0, x1, x2, x3, s0, s2, s3, s1, K, cK, x4, -⟩ := hns at_ nd hnd
    rw [Nat.mul_comm 5 at_] at x0 x1 x2 x3 x4
    exact ⟨K, cK, Mem.below_cell hb x0, Mem.below_cell hb x1, Mem.below_cell hb x2, Mem.below_cell hb x3, Mem.below_cell hb x4⟩)
  obtain ⟨hh, hhe⟩ : ∃ hh : Nat → Bool, (fun i => hasI (vs i) (numT ts (at_ : Nat))) = hh := ⟨_, rfl⟩
  have HHH := Lib.hid (fun i => congrFun hhe i)
  have HE := Lib.hid (show ∀ i j, i < nv → j < nv → testT hh nv i j = reachT (rxOf l ts vs) nv (f + 1) at_ i j from fun i j hi hj => by
    unfold reachT testT
    rw [if_neg (show ¬ (rxOf l ts vs).kd at_ = 18 by rw [show (rxOf l ts vs).kd at_ = 19 from hk]; decide), if_pos (show (rxOf l ts vs).kd at_ = 19 from hk), decide_eq_true hi, Bool.true_and, ← hhe]
    rfl)
  rw [hkd] at HX
  obtain ⟨u, hu⟩ : ∃ u, numT ts (at_ : Nat) = u := ⟨_, rfl⟩
  rw [hu] at HNUM HHH hnl
  clear h hns hnd hk hkd hhe hu
  go_enter Try.func35, Try.ntmps35
  go_wp2_with fail
  refine HSQ.out.mono ?_
  rintro e w1 ⟨B, R, rfl, ht, hB1⟩
  obtain ⟨K, cK, x0, x1, x2, x3, x4⟩ := HX.out _ hB1
  have HT := Lib.hid ht
  have HB1 := Lib.hid hB1
  clear ht hB1 HX HSQ
  go_wp2_with fail
  have HB2 := Lib.hid (HB1.out.alloc HB1.out.size (.cells #[.int .i64 19, .string nd.name, .int .i64 nd.lo, .int .i64 nd.hi, .slice K nd.kids.length cK] 42))
  have HT2 := Lib.hid (HT.out.below ((Below.refl _ w1).alloc (Nat.le_refl _) (.cells #[.int .i64 19, .string nd.name, .int .i64 nd.lo, .int .i64 nd.hi, .slice K nd.kids.length cK] 42)))
  clear x0 x1 x2 x3 x4
  go_loopw [48] (fun v wr => ∃ i : Nat, v = .int .i64 (i : Nat) ∧ i ≤ nv ∧ Tab wr w.heap.size B R nv (testT hh i) ∧ Below w.heap.size w wr) (fun v _ => nv - (intOf v).toNat)
  case atStart => exact ⟨0, rfl, Nat.zero_le _, HT2.out.ext (fun i j _ _ => rfl), HB2.out⟩
  case round =>
    obtain ⟨i, rfl, hin, ht, hB⟩ := hrel
    have HTi := Lib.hid ht
    have HB := Lib.hid hB
    by_cases hlt : i < nv
    · have z1 := ht.outer hlt
      have z2 := ht.inner hlt hlt
      have f1 := own_fz (ht.row i hlt) i
      have HN := Lib.hid (show ∀ y, y = hh i → Tab (wr.setCell ⟨R i, i, none⟩ (.bool y)) w.heap.size B R nv (testT hh (i + 1)) from fun y hy => by subst hy; exact (HTi.out.set hlt hlt (hh i)).ext (fun a b _ _ => test_next hh i a b))
      have HBN := Lib.hid (fun y : Bool => hB.setCell (p := ⟨R i, i, none⟩) ((ht.row i hlt).lt (R i) rfl).1 (.bool y))
      obtain ⟨bv, ov, rfl, hvs⟩ := HV.out (by omega)
      obtain ⟨Kv, qv, cv2, y1, hrd, hqc, hcm⟩ := hvs i hlt
      have y1 := Mem.below_cell hB y1
      have HHAS := Lib.hid (refHas Kv qv cv2 (vs i) wr.drew u (by omega) (by omega) (hrd.below hB.drew))
      have HNU := Lib.hid (HNUM.out wr.drew hB.drew)
      rw [HHH.out i] at HHAS
      obtain ⟨y, hy⟩ : ∃ y, hh i = y := ⟨_, rfl⟩
      rw [hy] at HHAS
      have HN := Lib.hid (HN.out y hy.symm)
      have HBN := Lib.hid (HBN.out y)
      clear ht hB hrd hvs hy
      go_wp2_with fail
      refine Late.drew [14] (S := fun W => W.cell? ⟨B, i, none⟩ = some (.slice (some ⟨R i, 0, none⟩) nv nv) ∧ W.cell? ⟨bv, ov + i, none⟩ = some (.slice Kv qv cv2)) (by kernel_rfl) ⟨z1, y1⟩ (fun hHeld => ?_)
      refine Late.take (i := 0) (oi := ?tko1) (v := ?tkv1) ?tkh1 (by kernel_rfl) (by kernel_rfl) (by kernel_rfl) (by kernel_rfl) ?tkq1 ?tky1 hHeld ?tkr1
      case tkh1 => (simp only [List.getElem?_toArray, List.getElem?_cons_zero]; rfl)
      case tkq1 => exact fun _ _ _ h => h
      case tky1 => exact Or.inl ⟨by rfl, by intro wSw hSw; (try dsimp only at hSw); go_simp; try with_reducible rfl⟩
      try simp only [Act.put, List.setIfInBounds_toArray, List.set_cons_zero, List.set_cons_succ]
      refine Late.take (i := 1) (oi := ?tko2) (v := ?tkv2) ?tkh2 (by kernel_rfl) (by kernel_rfl) (by kernel_rfl) (by kernel_rfl) ?tkq2 ?tky2 hHeld ?tkr2
      case tkh2 => (simp only [List.getElem?_toArray, List.getElem?_cons_succ, List.getElem?_cons_zero]; rfl)
      case tkq2 => exact fun _ _ _ h => h
      case tky2 => exact Or.inl ⟨by rfl, by intro wSw hSw; (try dsimp only at hSw); go_simp; try with_reducible rfl⟩
      try simp only [Act.put, List.setIfInBounds_toArray, List.set_cons_zero, List.set_cons_succ]
      refine Late.take (i := 2) (oi := ?tko3) (v := ?tkv3) ?tkh3 (by kernel_rfl) (by kernel_rfl) (by kernel_rfl) (by kernel_rfl) ?tkq3 ?tky3 hHeld ?tkr3
      case tkh3 => (simp only [List.getElem?_toArray, List.getElem?_cons_succ, List.getElem?_cons_zero]; rfl)
      case tkq3 => exact fun _ _ _ h => h
      case tky3 => exact Or.inl ⟨by rfl, by intro wSw hSw; (try dsimp only at hSw); go_simp; try with_reducible rfl⟩
      try simp only [Act.put, List.setIfInBounds_toArray, List.set_cons_zero, List.set_cons_succ]
      refine Late.take (i := 3) (oi := ?tko4) (v := ?tkv4) ?tkh4 (by kernel_rfl) (by kernel_rfl) (by kernel_rfl) (by kernel_rfl) ?tkq4 ?tky4 hHeld ?tkr4
      case tkh4 => (simp only [List.getElem?_toArray, List.getElem?_cons_succ, List.getElem?_cons_zero]; rfl)
      case tkq4 => exact fun _ _ _ h => h
      case tky4 => exact Or.inl ⟨by rfl, by intro wSw hSw; (try dsimp only at hSw); go_simp; try with_reducible rfl⟩
      try simp only [Act.put, List.setIfInBounds_toArray, List.set_cons_zero, List.set_cons_succ]
      refine Late.take (i := 4) (oi := ?tko5) (v := ?tkv5) ?tkh5 (by kernel_rfl) (by kernel_rfl) (by kernel_rfl) (by kernel_rfl) ?tkq5 ?tky5 hHeld ?tkr5
      case tkh5 => (simp only [List.getElem?_toArray, List.getElem?_cons_succ, List.getElem?_cons_zero]; rfl)
      case tkq5 => exact fun _ _ _ h => h
      case tky5 => exact Or.inl ⟨by rfl, by intro wSw hSw; (try dsimp only at hSw); go_simp; try with_reducible rfl⟩
      try simp only [Act.put, List.setIfInBounds_toArray, List.set_cons_zero, List.set_cons_succ]
      refine Late.take (i := 5) (oi := ?tko6) (v := ?tkv6) ?tkh6 (by kernel_rfl) (by kernel_rfl) (by kernel_rfl) (by kernel_rfl) ?tkq6 ?tky6 hHeld ?tkr6
      case tkh6 => (simp only [List.getElem?_toArray, List.getElem?_cons_succ, List.getElem?_cons_zero]; rfl)
      case tkq6 => exact fun _ _ _ h => h
      case tky6 => exact Or.inl ⟨by rfl, by intro wSw hSw; (try dsimp only at hSw); go_simp; try with_reducible rfl⟩
      try simp only [Act.put, List.setIfInBounds_toArray, List.set_cons_zero, List.set_cons_succ]
      refine Late.take (i := 6) (oi := ?tko7) (v := ?tkv7) ?tkh7 (by kernel_rfl) (by kernel_rfl) (by kernel_rfl) (by kernel_rfl) ?tkq7 ?tky7 hHeld ?tkr7
      case tkh7 => (simp only [List.getElem?_toArray, List.getElem?_cons_succ, List.getElem?_cons_zero]; rfl)
      case tkq7 => exact fun _ _ _ h => h
      case tky7 => exact Or.inl ⟨by rfl, by intro wSw hSw; (try dsimp only at hSw); go_simp; try with_reducible rfl⟩
      try simp only [Act.put, List.setIfInBounds_toArray, List.set_cons_zero, List.set_cons_succ]
      refine Late.take (i := 7) (oi := ?tko8) (v := ?tkv8) ?tkh8 (by kernel_rfl) (by kernel_rfl) (by kernel_rfl) (by kernel_rfl) ?tkq8 ?tky8 hHeld ?tkr8
      case tkh8 => (simp only [List.getElem?_toArray, List.getElem?_cons_succ, List.getElem?_cons_zero]; rfl)
      case tkq8 => exact fun _ _ _ h => h
      case tky8 => exact Or.inl ⟨by rfl, by intro wSw hSw; (try dsimp only at hSw); go_simp; try with_reducible rfl⟩
      try simp only [Act.put, List.setIfInBounds_toArray, List.set_cons_zero, List.set_cons_succ]
      refine Late.take (i := 8) (oi := ?tko9) (v := ?tkv9) ?tkh9 (by kernel_rfl) (by kernel_rfl) (by kernel_rfl) (by kernel_rfl) ?tkq9 ?tky9 hHeld ?tkr9
      case tkh9 => (simp only [List.getElem?_toArray, List.getElem?_cons_succ, List.getElem?_cons_zero]; rfl)
      case tkq9 => exact fun _ _ _ h => h
      case tky9 => exact Or.inl ⟨by rfl, by intro wSw hSw; (try dsimp only at hSw); go_simp; try with_reducible rfl⟩
      try simp only [Act.put, List.setIfInBounds_toArray, List.set_cons_zero, List.set_cons_succ]
      refine Late.take (i := 9) (oi := ?tko10) (v := ?tkv10) ?tkh10 (by kernel_rfl) (by kernel_rfl) (by kernel_rfl) (by kernel_rfl) ?tkq10 ?tky10 hHeld ?tkr10
      case tkh10 => (simp only [List.getElem?_toArray, List.getElem?_cons_succ, List.getElem?_cons_zero]; rfl)
      case tkq10 => exact fun _ _ _ h => h
      case tky10 => exact Or.inl ⟨by rfl, by intro wSw hSw; (try dsimp only at hSw); go_simp; try with_reducible rfl⟩
      try simp only [Act.put, List.setIfInBounds_toArray, List.set_cons_zero, List.set_cons_succ]
      refine Late.take (i := 10) (oi := ?tko11) (v := ?tkv11) ?tkh11 (by kernel_rfl) (by kernel_rfl) (by kernel_rfl) (by kernel_rfl) ?tkq11 ?tky11 hHeld ?tkr11
      case tkh11 => (simp only [List.getElem?_toArray, List.getElem?_cons_succ, List.getElem?_cons_zero]; rfl)
      case tkq11 => exact fun _ _ _ h => h
      case tky11 => exact Or.inl ⟨by rfl, by intro wSw hSw; (try dsimp only at hSw); go_simp; try with_reducible rfl⟩
      try simp only [Act.put, List.setIfInBounds_toArray, List.set_cons_zero, List.set_cons_succ]
      refine Late.early (k := 11) (o := ?tko12) (by kernel_rfl) (by kernel_rfl) ?tkh12 (fun Kt12 hKt12 => ?_)
      case tkh12 => (simp only [List.getElem?_toArray, List.getElem?_cons_succ, List.getElem?_cons_zero]; rfl)
      go_simp
      (go_at_call 55; refine HNU.out.mono ?_; rintro e W3 ⟨rfl, hW3⟩; rw [hW3]; clear hW3)
      refine hKt12.out _ _ ?_ (fun hHt12 => ?_)
      · (exact ⟨z1, y1⟩)
      clear hKt12 Kt12 hHeld
      have hHeld := hHt12
      clear hHt12
      try simp only [Act.put, List.setIfInBounds_toArray, List.set_cons_zero, List.set_cons_succ]
      refine Late.early (k := 12) (o := ?tko13) (by kernel_rfl) (by kernel_rfl) ?tkh13 (fun Kt13 hKt13 => ?_)
      case tkh13 => (simp only [List.getElem?_toArray, List.getElem?_cons_succ, List.getElem?_cons_zero]; rfl)
      go_simp
      (go_at_call 54; refine HHAS.out.mono ?_; rintro e W4 ⟨rfl, hW4⟩; rw [← hW4]; clear hW4)
      refine hKt13.out _ _ ?_ (fun hHt13 => ?_)
      · (exact ⟨z1, y1⟩)
      clear hKt13 Kt13 hHeld
      have hHeld := hHt13
      clear hHt13
      try simp only [Act.put, List.setIfInBounds_toArray, List.set_cons_zero, List.set_cons_succ]
      refine Late.take (i := 13) (oi := ?tko14) (v := ?tkv14) ?tkh14 (by kernel_rfl) (by kernel_rfl) (by kernel_rfl) (by kernel_rfl) ?tkq14 ?tky14 hHeld ?tkr14
      case tkh14 => (simp only [List.getElem?_toArray, List.getElem?_cons_succ, List.getElem?_cons_zero]; rfl)
      case tkq14 => exact fun _ _ _ h => h
      case tky14 => exact Or.inl ⟨by rfl, by intro wSw hSw; (try dsimp only at hSw); go_simp; try with_reducible rfl⟩
      try simp only [Act.put, List.setIfInBounds_toArray, List.set_cons_zero, List.set_cons_succ]
      refine Late.last (k := 14) (o := ?tko15) (by kernel_rfl) (by kernel_rfl) ?tkh15 (fun Kt15 hKt15 => ?_)
      case tkh15 => (simp only [List.getElem?_toArray, List.getElem?_cons_succ, List.getElem?_cons_zero]; rfl)
      go_simp
      refine hKt15.out _ _ trivial (fun hHt15 => ?_)
      clear hKt15 Kt15 hHeld
      have hHeld := hHt15
      clear hHt15
      try simp only [Act.put, List.setIfInBounds_toArray, List.set_cons_zero, List.set_cons_succ]
      refine wpAnyH_done (by kernel_rfl) ?_ _
      clear hHeld
      go_wp2_with fail
      go_roundw
      case rel => exact ⟨i + 1, by simp, by omega, HN.out.below (Below.refl _ _).drew, HBN.out.drew⟩
      case measure => (show nv - (i + 1) < nv - i; omega)
    · obtain rfl : i = nv := by omega
      have HX := Lib.hid (HTi.out.ext HE.out)
      clear ht hB
      go_wp2_with fail
      go_ret
      exact ⟨B, R, rfl, HX.out, HB.out⟩
end Go.Proofs.Ytcpmcgbjmncalaa.Paths

namespace Go.Proofs.Ytcpmcgbjmncalaa.Paths
open Go.RowKit Go.Proofs.Ytcpmcgbjmncalaa.Ints Go.Proofs.Ytcpmcgbjmncalaa.Mem Go.Proofs.Ytcpmcgbjmncalaa.Src Go.Proofs.Ytcpmcgbjmncalaa.Tree Go.Proofs.Ytcpmcgbjmncalaa.BitsWalks Go.Proofs.Ytcpmcgbjmncalaa.RdW

theorem RIn.below {w w' : World} {A : Option Addr} {n : Nat} {l : List Nd} {T : Option Addr} {nt : Nat} {ts : List Int} {V : Option Addr} {nv : Nat} {vs : Nat → List Nat} (h : RIn w A n l T nt ts V nv vs) (hb : Below w.heap.size w w') : RIn w' A n l T nt ts V nv vs :=
  ⟨h.nodes.below hb, h.may, h.len, h.small, Rd.below h.tests hb, h.nts, h.vals.below hb, h.nvs⟩
theorem kid_len {l : List Nd} (h : mayL l = true) {i : Nat} {nd : Nd} (hi : l[i]? = some nd) : (nd.kids.length : Int) = arity nd.kind := by
  obtain ⟨st, -, h2, -, -⟩ := may_node h hi
  exact (shape_parts h2).2.1
theorem kidN_at {l : List Nd} {i : Nat} {nd : Nd} (hi : l[i]? = some nd) (j : Nat) : kidN l i j = (nd.kids[j]?.getD 0).toNat := by
  unfold kidN
  rw [hi]
  rfl
/-- The cells of a node and of its kids, in every later world. -/
theorem node_kids {w : World} {A : Option Addr} {n : Nat} {l : List Nd} {T : Option Addr} {nt : Nat} {ts : List Int} {V : Option Addr} {nv : Nat} {vs : Nat → List Nat} (h : RIn w A n l T nt ts V nv vs) {at_ : Nat} (hat : at_ < n) {m : Nat} (hm : arity (kindN l at_) = (m : Nat)) (h0 : 0 < m) :
    ∃ (b off : Nat) (nd : Nd) (Kb ko cK : Nat), A = some ⟨b, off, none⟩ ∧ nd.kind = kindN l at_ ∧ m ≤ cK ∧ (∀ j, j < m → kidN l at_ j < at_) ∧ ∀ W, Below w.heap.size w W →
      W.cell? ⟨b, off + at_ * 5, none⟩ = some (.int .i64 nd.kind) ∧ W.cell? ⟨b, off + at_ * 5 + 1, none⟩ = some (.string nd.name) ∧ W.cell? ⟨b, off + at_ * 5 + 2, none⟩ = some (.int .i64 nd.lo) ∧ W.cell? ⟨b, off + at_ * 5 + 3, none⟩ = some (.int .i64 nd.hi) ∧
      W.cell? ⟨b, off + at_ * 5 + 4, none⟩ = some (.slice (some ⟨Kb, ko, none⟩) m cK) ∧ ∀ j, j < m → W.cell? ⟨Kb, ko + j, none⟩ = some (.int .i64 ((kidN l at_ j : Nat) : Int)) := by
  have hl := h.len
  obtain ⟨b, off, rfl, hns⟩ := h.nodes (by omega)
  obtain ⟨nd, hnd⟩ : ∃ nd, l[at_]? = some nd := ⟨_, List.getElem?_eq_getElem (by omega)⟩
  have hkl := kid_len h.may hnd
  rw [← kind_of hnd, hm] at hkl
  obtain ⟨x0, x1, x2, x3, s0, s2, s3, s1, K, cK, x4, xr, hc, -⟩ := hns at_ nd hnd
  rw [Nat.mul_comm 5 at_] at x0 x1 x2 x3 x4
  obtain rfl : nd.kids.length = m := by omega
  obtain ⟨Kb, ko, rfl, hcs⟩ := Rd.cell xr h0
  have hkid : ∀ j, j < nd.kids.length → nd.kids[j]?.getD 0 = ((kidN l at_ j : Nat) : Int) ∧ kidN l at_ j < at_ := fun j hj => by
    obtain ⟨t, ht, hlt, -⟩ := kid_nat h.may hnd hj
    rw [kidN_at hnd, ht]
    exact ⟨by simp, by simpa using hlt⟩
  refine ⟨b, off, nd, Kb, ko, cK, rfl, (kind_of hnd).symm, hc, fun j hj => (hkid j hj).2, fun W hb => ⟨Mem.below_cell hb x0, Mem.below_cell hb x1, Mem.below_cell hb x2, Mem.below_cell hb x3, Mem.below_cell hb x4, fun j hj => ?_⟩⟩
  have h2 := hcs j hj
  rw [(hkid j hj).1] at h2
  exact Mem.below_cell hb h2
theorem Tab.down {w : World} {lo lo' B : Nat} {R : Nat → Nat} {n : Nat} {m : Tb} (h : Tab w lo B R n m) (hlo : lo' ≤ lo) : Tab w lo' B R n m := by
  have go : ∀ {e : TypeId} {r : Nat} {xs : List Value}, w.ownsRow lo e 1 (.slice (some ⟨r, 0, none⟩) n n) n xs → w.ownsRow lo' e 1 (.slice (some ⟨r, 0, none⟩) n n) n xs := fun h => by
    refine ⟨h.1, ?_⟩
    rcases h.2 with h2 | ⟨g, cap, cur, e1, h4, h5, h6⟩
    · exact .inl h2
    · exact .inr ⟨g, cap, cur, e1, Nat.le_trans hlo h4, h5, h6⟩
  exact ⟨go h.out, fun i hi => go (h.row i hi), h.off⟩
set_option maxHeartbeats 8000000 in
set_option maxRecDepth 100000 in
theorem reach_seq (A T V : Option Addr) (n c nt ct nv cv at_ : Nat) (l : List Nd) (ts : List Int) (vs : Nat → List Nat) (w : World) (h : RIn w A n l T nt ts V nv vs) (hat : at_ < n) (hk : kindN l at_ = 21) (f : Nat)
    (ih : ∀ y, y < at_ → ∀ W, Below w.heap.size w W → Calls Try.prog 35 #[.slice A n c, .int .i64 (y : Nat), .slice T nt ct, .slice V nv cv] W (GotTab W nv (reachT (rxOf l ts vs) nv f y))) :
    Calls Try.prog 35 #[.slice A n c, .int .i64 (at_ : Nat), .slice T nt ct, .slice V nv cv] w (GotTab w nv (reachT (rxOf l ts vs) nv (f + 1) at_)) := by
  have q63 : maxLen = 9223372036854775807 := rfl
  have hs := h.small
  have hnv := h.nvs
  have HSQ := Lib.hid (refSquare nv w hnv)
  obtain ⟨b, off, nd, Kb, ko, cK, rfl, hkd, hcK, hlt, HX⟩ := node_kids h hat (m := 2) (by rw [hk]; rfl) (by decide)
  have HX := Lib.hid HX
  have HI0 := Lib.hid (ih (kidN l at_ 0) (hlt 0 (by decide)))
  have HI1 := Lib.hid (ih (kidN l at_ 1) (hlt 1 (by decide)))
  have HE := Lib.hid (show prodT nv (reachT (rxOf l ts vs) nv f (kidN l at_ 0)) (reachT (rxOf l ts vs) nv f (kidN l at_ 1)) = reachT (rxOf l ts vs) nv (f + 1) at_ from by
    conv => rhs; unfold reachT
    have e : (rxOf l ts vs).kd at_ = 21 := hk
    rw [if_neg (by rw [e]; decide), if_neg (by rw [e]; decide), if_neg (by rw [e]; decide), if_pos e]
    rfl)
  rw [hkd, hk] at HX
  obtain ⟨t0, ht0⟩ : ∃ t, reachT (rxOf l ts vs) nv f (kidN l at_ 0) = t := ⟨_, rfl⟩
  obtain ⟨t1, ht1⟩ : ∃ t, reachT (rxOf l ts vs) nv f (kidN l at_ 1) = t := ⟨_, rfl⟩
  have hl0 := hlt 0 (by decide)
  have hl1 := hlt 1 (by decide)
  rw [ht0] at HE HI0
  rw [ht1] at HE HI1
  have HK := Lib.hid (fun W (hb : Below w.heap.size w W) => And.intro ((HX.out W hb).2.2.2.2.2 0 (by decide)) ((HX.out W hb).2.2.2.2.2 1 (by decide)))
  obtain ⟨k0, hk0⟩ : ∃ t, kidN l at_ 0 = t := ⟨_, rfl⟩
  obtain ⟨k1, hk1⟩ : ∃ t, kidN l at_ 1 = t := ⟨_, rfl⟩
  rw [hk0] at HI0 HK hl0
  rw [hk1] at HI1 HK hl1
  clear h hlt ih hkd ht0 ht1 hk0 hk1
  go_enter Try.func35, Try.ntmps35
  go_wp2_with fail
  refine HSQ.out.mono ?_
  rintro e w1 ⟨B, R, rfl, -, hB1⟩
  obtain ⟨x0, x1, x2, x3, x4, -⟩ := HX.out _ hB1
  have HB1 := Lib.hid hB1
  clear hB1 HX HSQ
  go_wp2_with fail
  obtain ⟨V1, hV1⟩ : ∃ V1, w1.alloc (.cells #[.int .i64 21, .string nd.name, .int .i64 nd.lo, .int .i64 nd.hi, .slice (some ⟨Kb, ko, none⟩) 2 cK] 42) = V1 := ⟨_, rfl⟩
  have HBV := Lib.hid (show Below w.heap.size w V1 by rw [← hV1]; exact HB1.out.alloc HB1.out.size _)
  have hblk : V1.heap[w1.heap.size]? = some (.cells #[.int .i64 21, .string nd.name, .int .i64 nd.lo, .int .i64 nd.hi, .slice (some ⟨Kb, ko, none⟩) 2 cK] 42 (0, 0)) := by rw [← hV1]; exact heap_alloc_new w1 _
  have c0 : V1.cell? ⟨w1.heap.size, 4, none⟩ = some (.slice (some ⟨Kb, ko, none⟩) 2 cK) := by
    rw [cell_of_row V1 w1.heap.size 4 _ _ _ hblk]
    rfl
  rw [hV1]
  clear hV1 hblk x0 x1 x2 x3 x4
  obtain ⟨c1, c2⟩ := HK.out V1 HBV.out
  rw [Nat.add_zero] at c1
  refine wp_region_held_drew (S := fun W => W.cell? ⟨w1.heap.size, 4, none⟩ = some (.slice (some ⟨Kb, ko, none⟩) 2 cK) ∧ W.cell? ⟨Kb, ko, none⟩ = some (.int .i64 (k0 : Nat)) ∧ W.cell? ⟨Kb, ko + 1, none⟩ = some (.int .i64 (k1 : Nat))) (by kernel_rfl) ⟨c0, c1, c2⟩ (fun hHeld => ?_)
  have HI0 := Lib.hid (HI0.out V1.drew HBV.out.drew)
  refine wpAnyH_take (i := 0) (oi := ?tko1) (v := ?tkv1) ?tkh1 (by kernel_rfl) (by kernel_rfl) (by kernel_rfl) ?tkq1 ?tky1 hHeld ?tkr1
  case tkh1 => (simp only [List.getElem?_toArray, List.getElem?_cons_zero]; rfl)
  case tkq1 => exact fun _ _ _ h => h
  case tky1 => exact Or.inl ⟨by rfl, by intro wSw hSw; (try dsimp only at hSw); go_simp; try with_reducible rfl⟩
  try simp only [Act.put, List.setIfInBounds_toArray, List.set_cons_zero, List.set_cons_succ]
  refine wpAnyH_take (i := 1) (oi := ?tko2) (v := ?tkv2) ?tkh2 (by kernel_rfl) (by kernel_rfl) (by kernel_rfl) ?tkq2 ?tky2 hHeld ?tkr2
  case tkh2 => (simp only [List.getElem?_toArray, List.getElem?_cons_succ, List.getElem?_cons_zero]; rfl)
  case tkq2 => exact fun _ _ _ h => h
  case tky2 => exact Or.inl ⟨by rfl, by intro wSw hSw; (try dsimp only at hSw); go_simp; try with_reducible rfl⟩
  try simp only [Act.put, List.setIfInBounds_toArray, List.set_cons_zero, List.set_cons_succ]
  refine wpAnyH_take (i := 2) (oi := ?tko3) (v := ?tkv3) ?tkh3 (by kernel_rfl) (by kernel_rfl) (by kernel_rfl) ?tkq3 ?tky3 hHeld ?tkr3
  case tkh3 => (simp only [List.getElem?_toArray, List.getElem?_cons_succ, List.getElem?_cons_zero]; rfl)
  case tkq3 => exact fun _ _ _ h => h
  case tky3 => exact Or.inl ⟨by rfl, by intro wSw hSw; (try dsimp only at hSw); go_simp; try with_reducible rfl⟩
  try simp only [Act.put, List.setIfInBounds_toArray, List.set_cons_zero, List.set_cons_succ]
  refine wpAnyH_take (i := 3) (oi := ?tko4) (v := ?tkv4) ?tkh4 (by kernel_rfl) (by kernel_rfl) (by kernel_rfl) ?tkq4 ?tky4 hHeld ?tkr4
  case tkh4 => (simp only [List.getElem?_toArray, List.getElem?_cons_succ, List.getElem?_cons_zero]; rfl)
  case tkq4 => exact fun _ _ _ h => h
  case tky4 => exact Or.inl ⟨by rfl, by intro wSw hSw; (try dsimp only at hSw); go_simp; try with_reducible rfl⟩
  try simp only [Act.put, List.setIfInBounds_toArray, List.set_cons_zero, List.set_cons_succ]
  refine wpAnyH_take (i := 4) (oi := ?tko5) (v := ?tkv5) ?tkh5 (by kernel_rfl) (by kernel_rfl) (by kernel_rfl) ?tkq5 ?tky5 hHeld ?tkr5
  case tkh5 => (simp only [List.getElem?_toArray, List.getElem?_cons_succ, List.getElem?_cons_zero]; rfl)
  case tkq5 => exact fun _ _ _ h => h
  case tky5 => exact Or.inl ⟨by rfl, by intro wSw hSw; (try dsimp only at hSw); go_simp; try with_reducible rfl⟩
  try simp only [Act.put, List.setIfInBounds_toArray, List.set_cons_zero, List.set_cons_succ]
  refine wpAnyH_take (i := 5) (oi := ?tko6) (v := ?tkv6) ?tkh6 (by kernel_rfl) (by kernel_rfl) (by kernel_rfl) ?tkq6 ?tky6 hHeld ?tkr6
  case tkh6 => (simp only [List.getElem?_toArray, List.getElem?_cons_succ, List.getElem?_cons_zero]; rfl)
  case tkq6 => exact fun _ _ _ h => h
  case tky6 => exact Or.inl ⟨by rfl, by intro wSw hSw; (try dsimp only at hSw); go_simp; try with_reducible rfl⟩
  try simp only [Act.put, List.setIfInBounds_toArray, List.set_cons_zero, List.set_cons_succ]
  refine wpAnyH_take (i := 6) (oi := ?tko7) (v := ?tkv7) ?tkh7 (by kernel_rfl) (by kernel_rfl) (by kernel_rfl) ?tkq7 ?tky7 hHeld ?tkr7
  case tkh7 => (simp only [List.getElem?_toArray, List.getElem?_cons_succ, List.getElem?_cons_zero]; rfl)
  case tkq7 => exact fun _ _ _ h => h
  case tky7 => exact Or.inl ⟨by rfl, by intro wSw hSw; (try dsimp only at hSw); go_simp; try with_reducible rfl⟩
  try simp only [Act.put, List.setIfInBounds_toArray, List.set_cons_zero, List.set_cons_succ]
  refine wpAnyH_take (i := 8) (oi := ?tko8) (v := ?tkv8) ?tkh8 (by kernel_rfl) (by kernel_rfl) (by kernel_rfl) ?tkq8 ?tky8 hHeld ?tkr8
  case tkh8 => (simp only [List.getElem?_toArray, List.getElem?_cons_succ, List.getElem?_cons_zero]; rfl)
  case tkq8 => exact fun _ _ _ h => h
  case tky8 => exact Or.inl ⟨by rfl, by intro wSw hSw; (try dsimp only at hSw); go_simp; try with_reducible rfl⟩
  try simp only [Act.put, List.setIfInBounds_toArray, List.set_cons_zero, List.set_cons_succ]
  refine wpAnyH_take (i := 9) (oi := ?tko9) (v := ?tkv9) ?tkh9 (by kernel_rfl) (by kernel_rfl) (by kernel_rfl) ?tkq9 ?tky9 hHeld ?tkr9
  case tkh9 => (simp only [List.getElem?_toArray, List.getElem?_cons_succ, List.getElem?_cons_zero]; rfl)
  case tkq9 => exact fun _ _ _ h => h
  case tky9 => exact Or.inl ⟨by rfl, by intro wSw hSw; (try dsimp only at hSw); go_simp; try with_reducible rfl⟩
  try simp only [Act.put, List.setIfInBounds_toArray, List.set_cons_zero, List.set_cons_succ]
  refine wpAnyH_take (i := 10) (oi := ?tko10) (v := ?tkv10) ?tkh10 (by kernel_rfl) (by kernel_rfl) (by kernel_rfl) ?tkq10 ?tky10 hHeld ?tkr10
  case tkh10 => (simp only [List.getElem?_toArray, List.getElem?_cons_succ, List.getElem?_cons_zero]; rfl)
  case tkq10 => exact fun _ _ _ h => h
  case tky10 => exact Or.inl ⟨by rfl, by intro wSw hSw; (try dsimp only at hSw); go_simp; try with_reducible rfl⟩
  try simp only [Act.put, List.setIfInBounds_toArray, List.set_cons_zero, List.set_cons_succ]
  refine wpAnyH_take (i := 11) (oi := ?tko11) (v := ?tkv11) ?tkh11 (by kernel_rfl) (by kernel_rfl) (by kernel_rfl) ?tkq11 ?tky11 hHeld ?tkr11
  case tkh11 => (simp only [List.getElem?_toArray, List.getElem?_cons_succ, List.getElem?_cons_zero]; rfl)
  case tkq11 => exact fun _ _ _ h => h
  case tky11 => exact Or.inl ⟨by rfl, by intro wSw hSw; (try dsimp only at hSw); go_simp; try with_reducible rfl⟩
  try simp only [Act.put, List.setIfInBounds_toArray, List.set_cons_zero, List.set_cons_succ]
  refine wpAnyH_take (i := 12) (oi := ?tko12) (v := ?tkv12) ?tkh12 (by kernel_rfl) (by kernel_rfl) (by kernel_rfl) ?tkq12 ?tky12 hHeld ?tkr12
  case tkh12 => (simp only [List.getElem?_toArray, List.getElem?_cons_succ, List.getElem?_cons_zero]; rfl)
  case tkq12 => exact fun _ _ _ h => h
  case tky12 => exact Or.inl ⟨by rfl, by intro wSw hSw; (try dsimp only at hSw); go_simp; try with_reducible rfl⟩
  try simp only [Act.put, List.setIfInBounds_toArray, List.set_cons_zero, List.set_cons_succ]
  refine wpAnyH_take (i := 13) (oi := ?tko13) (v := ?tkv13) ?tkh13 (by kernel_rfl) (by kernel_rfl) (by kernel_rfl) ?tkq13 ?tky13 hHeld ?tkr13
  case tkh13 => (simp only [List.getElem?_toArray, List.getElem?_cons_succ, List.getElem?_cons_zero]; rfl)
  case tkq13 => exact fun _ _ _ h => h
  case tky13 => exact Or.inl ⟨by rfl, by intro wSw hSw; (try dsimp only at hSw); go_simp; try with_reducible rfl⟩
  try simp only [Act.put, List.setIfInBounds_toArray, List.set_cons_zero, List.set_cons_succ]
  refine wpAnyH_take (i := 14) (oi := ?tko14) (v := ?tkv14) ?tkh14 (by kernel_rfl) (by kernel_rfl) (by kernel_rfl) ?tkq14 ?tky14 hHeld ?tkr14
  case tkh14 => (simp only [List.getElem?_toArray, List.getElem?_cons_succ, List.getElem?_cons_zero]; rfl)
  case tkq14 => exact fun _ _ _ h => h
  case tky14 => exact Or.inl ⟨by rfl, by intro wSw hSw; (try dsimp only at hSw); go_simp; try with_reducible rfl⟩
  try simp only [Act.put, List.setIfInBounds_toArray, List.set_cons_zero, List.set_cons_succ]
  refine wpAnyH_ready (rs := [7]) (by kernel_rfl) (by simp) ?_
  refine AllReadyH.cons (o := ?tko15) ?tkh15 (fun Kt15 hKt15 => ?_) AllReadyH.nil
  case tkh15 => (simp only [List.getElem?_toArray, List.getElem?_cons_succ, List.getElem?_cons_zero]; rfl)
  go_simp
  (go_at_call 35; refine HI0.out.mono ?_; rintro e w2 ⟨B2, R2, rfl, ht2, hB2⟩; have HB2 := Lib.hid hB2; have HT2 := Lib.hid ht2; clear hB2 ht2; have HI1 := Lib.hid (HI1.out w2 (HBV.out.drew.trans (HB2.out.mono HBV.out.size))))
  refine hKt15.out _ _ ?_ (fun hHt15 => ?_)
  · (exact ⟨Mem.below_cell HB2.out c0, Mem.below_cell HB2.out c1, Mem.below_cell HB2.out c2⟩)
  clear hKt15 Kt15 hHeld
  have hHeld := hHt15
  clear hHt15
  try simp only [Act.put, List.setIfInBounds_toArray, List.set_cons_zero, List.set_cons_succ]
  refine wpAnyH_ready (rs := [15]) (by kernel_rfl) (by simp) ?_
  refine AllReadyH.cons (o := ?tko16) ?tkh16 (fun Kt16 hKt16 => ?_) AllReadyH.nil
  case tkh16 => (simp only [List.getElem?_toArray, List.getElem?_cons_succ, List.getElem?_cons_zero]; rfl)
  go_simp
  (go_at_call 35; refine HI1.out.mono ?_; rintro e w3 ⟨B3, R3, rfl, ht3, hB3⟩; have HB3 := Lib.hid hB3; have HT3 := Lib.hid ht3; clear hB3 ht3; have HP := Lib.hid (refProduct (some ⟨B2, 0, none⟩) (some ⟨B3, 0, none⟩) nv nv nv nv t0 t1 w3 hnv ((HT2.out.below HB3.out).reads (by omega)) (HT3.out.reads (by omega)) (Nat.le_refl _) rfl (Nat.le_refl _)))
  refine hKt16.out _ _ ?_ (fun hHt16 => ?_)
  · (exact ⟨Mem.below_cell HB3.out (Mem.below_cell HB2.out c0), Mem.below_cell HB3.out (Mem.below_cell HB2.out c1), Mem.below_cell HB3.out (Mem.below_cell HB2.out c2)⟩)
  clear hKt16 Kt16 hHeld
  have hHeld := hHt16
  clear hHt16
  try simp only [Act.put, List.setIfInBounds_toArray, List.set_cons_zero, List.set_cons_succ]
  refine wpAnyH_ready (rs := [16]) (by kernel_rfl) (by simp) ?_
  refine AllReadyH.cons (o := ?tko17) ?tkh17 (fun Kt17 hKt17 => ?_) AllReadyH.nil
  case tkh17 => (simp only [List.getElem?_toArray, List.getElem?_cons_succ, List.getElem?_cons_zero]; rfl)
  go_simp
  (go_at_call 56; refine HP.out.mono ?_; rintro e w4 ⟨B4, R4, rfl, ht4, hB4⟩; have HB4 := Lib.hid hB4; have HT4 := Lib.hid ht4; clear hB4 ht4)
  refine hKt17.out _ _ ?_ (fun hHt17 => ?_)
  · (exact ⟨Mem.below_cell HB4.out (Mem.below_cell HB3.out (Mem.below_cell HB2.out c0)), Mem.below_cell HB4.out (Mem.below_cell HB3.out (Mem.below_cell HB2.out c1)), Mem.below_cell HB4.out (Mem.below_cell HB3.out (Mem.below_cell HB2.out c2))⟩)
  clear hKt17 Kt17 hHeld
  have hHeld := hHt17
  clear hHt17
  try simp only [Act.put, List.setIfInBounds_toArray, List.set_cons_zero, List.set_cons_succ]
  refine wpAnyH_take (i := 17) (oi := ?tko18) (v := ?tkv18) ?tkh18 (by kernel_rfl) (by kernel_rfl) (by kernel_rfl) ?tkq18 ?tky18 hHeld ?tkr18
  case tkh18 => (simp only [List.getElem?_toArray, List.getElem?_cons_succ, List.getElem?_cons_zero]; rfl)
  case tkq18 => exact fun _ _ _ h => h
  case tky18 => exact Or.inl ⟨by rfl, by intro wSw hSw; (try dsimp only at hSw); go_simp; try with_reducible rfl⟩
  try simp only [Act.put, List.setIfInBounds_toArray, List.set_cons_zero, List.set_cons_succ]
  refine wpAnyH_done (by kernel_rfl) ?_ _
  have hs2 : w.heap.size ≤ V1.heap.size := HBV.out.size
  have hs3 : V1.heap.size ≤ w2.heap.size := HB2.out.size
  have hs4 : w2.heap.size ≤ w3.heap.size := HB3.out.size
  have HBE := Lib.hid (((HBV.out.drew.trans (HB2.out.mono HBV.out.size)).trans (HB3.out.mono (Nat.le_trans hs2 hs3))).trans (HB4.out.mono (Nat.le_trans (Nat.le_trans hs2 hs3) hs4)))
  have HTE := Lib.hid (HT4.out.down (lo' := w.heap.size) (Nat.le_trans (Nat.le_trans hs2 hs3) hs4))
  rw [HE.out] at HTE
  clear hHeld c0 c1 c2 hs2 hs3 hs4
  go_wp2_with fail
  go_ret
  exact ⟨B4, R4, rfl, HTE.out, HBE.out⟩
end Go.Proofs.Ytcpmcgbjmncalaa.Paths
