/-
  One round of the landed own (stage 14). By an AI agent.
-/
import Derived.Test.YtcpmcgbjmncalaaGPathsUnion31
import Derived.Test.YtcpmcgbjmncalaaGPathsUnion34
import Derived.Test.YtcpmcgbjmncalaaGPathsUnion9
namespace Go.Proofs.Ytcpmcgbjmncalaa.Paths
open Go.RowKit Go.Shelf Go.Proofs.Ytcpmcgbjmncalaa.Ints Go.Proofs.Ytcpmcgbjmncalaa.Mem Go.Proofs.Ytcpmcgbjmncalaa.Src Go.Proofs.Ytcpmcgbjmncalaa.Tree Go.Proofs.Ytcpmcgbjmncalaa.BitsWalks Go.Proofs.Ytcpmcgbjmncalaa.RdW Go.Proofs.Ytcpmcgbjmncalaa.Words Go.Proofs.Ytcpmcgbjmncalaa.Round

attribute [local go_sem] Oper.semAt_some wide_fn wide_depth

theorem rowB_set {n : Nat} (f : Nat → Bool) (k : Nat) (b : Bool) : (rowB n f).set k (.bool b) = rowB n (fun x => if x = k then b else f x) := by
  apply List.ext_getElem?
  intro q
  rw [List.getElem?_set, rowB_len]
  by_cases hq : q < n
  · rw [rowB_at hq, rowB_at hq]
    by_cases e : k = q
    · subst e
      rw [if_pos rfl, if_pos hq, if_pos rfl]
    · rw [if_neg e, if_neg (fun e2 => e e2.symm)]
  · rw [rowB_none hq, rowB_none hq]
    by_cases e : k = q
    · rw [if_pos e, if_neg (by omega)]
    · rw [if_neg e]
theorem setKs_take {T : Nat → Bool} {ks : List Int} {b : Bool} {j k : Nat} (h : ks.take (j + 1) = ks.take j ++ [((k : Nat) : Int)]) : (fun x => if x = k then b else setKs T (ks.take j) b x) = setKs T (ks.take (j + 1)) b := by
  funext x
  unfold setKs
  rw [h]
  by_cases e : x = k
  · subst e
    rw [if_pos rfl, if_pos (List.mem_append_right _ (List.mem_singleton.2 rfl))]
  · rw [if_neg e]
    by_cases hm : ((x : Nat) : Int) ∈ ks.take j
    · rw [if_pos hm, if_pos (List.mem_append_left _ hm)]
    · rw [if_neg hm, if_neg (fun hc => (List.mem_append.1 hc).elim hm (fun hc => e (by have := List.mem_singleton.1 hc; omega)))]
/-- Rows of two types are apart. -/
theorem row_ne {W : World} {lo1 lo2 g n m c k1 k2 : Nat} {t1 t2 : TypeId} {v : Value} {xs ys : List Value} (h : W.ownsRow lo1 t1 k1 (.slice (some ⟨g, 0, none⟩) n c) n xs) (h2 : W.ownsRow lo2 t2 k2 v m ys) (hne : t1 ≠ t2) : v.ownBlock ≠ some g := fun e => by
  rcases h2.2 with ⟨e1, -⟩ | ⟨g1, c1, cur1, e1, -, hq1, -⟩
  · rw [e1] at e; cases e
  rcases h.2 with ⟨e2, -⟩ | ⟨g2, c2, cur2, e2, -, hq2, -⟩
  · cases e2
  rw [e1] at e
  have e : some g1 = some g := e
  injection e with e
  injection e2 with e2
  injection e2 with e2
  injection e2 with e2
  rw [e] at hq1
  rw [← e2, hq1] at hq2
  injection hq2 with hq2
  injection hq2 with _ e3 _
  exact hne e3.symm
set_option maxHeartbeats 16000000 in
set_option maxRecDepth 100000 in
theorem own_body (A K : Option Addr) (n c b3 b5 b6 BT Bx lo i r cK : Nat) (kd kn nlo nhi : Int) (nm : ByteArray) (ks : List Int) (fv v14 v19 vn : Value) (T : Nat → Bool) (fd : List Nat) (W : World) (C : Code)
    (hC : C = cBody (cBlock (cSnd (cFst (cSnd (cSnd (cSnd (cSnd (Try.f24.body.getD .skip)))))))))
    (hi : i < n) (h3 : W.cell? ⟨b3, 0, none⟩ = some (.int .i64 kd)) (x5 : Boxed W b5 27 fv) (x6 : Boxed W b6 44 (.slice (some ⟨BT, 0, none⟩) n n)) (hT : W.ownsRow lo 4 1 (.slice (some ⟨BT, 0, none⟩) n n) n (rowB n T))
    (hF : W.ownsRow lo 3 1 fv fd.length (fd.map fun x => Value.int .i64 ((x : Nat) : Int))) (hfd : fd.length ≤ 1048576) (hbx : W.heap[Bx]? = some (.cells #[.int .i64 kn, .string nm, .int .i64 nlo, .int .i64 nhi, .slice K ks.length cK] 42 (0, 0)))
    (hks : Rd .i64 W K ks.length ks) (hkc : ks.length ≤ cK) (hk : ∀ j, j < ks.length → ∃ k : Nat, ks[j]?.getD 0 = ((k : Nat) : Int) ∧ k < i ∧ ks.take (j + 1) = ks.take j ++ [((k : Nat) : Int)]) (hk2 : ks.length ≤ 2) (hKl : ∀ a, K = some a → 0 < ks.length → a.block ≠ BT)
    (hlo : lo ≤ W.heap.size) (n3 : BT ≠ b3)
    (PK : Act → World → Prop) (hK : ∀ a W' fv', Boxed W' b5 27 fv' → W'.ownsRow lo 4 1 (.slice (some ⟨BT, 0, none⟩) n n) n (rowB n (setKs T ks (T i || decide (kn = 19)))) →
      W'.ownsRow lo 3 1 fv' (if decide (kn = kd) && !(T i) then fd ++ [i] else fd).length ((if decide (kn = kd) && !(T i) then fd ++ [i] else fd).map fun x => Value.int .i64 ((x : Nat) : Int)) → Left (fun k => k = BT ∨ k = b5 ∨ fv.ownBlock = some k) W W' → (∀ q, fv'.ownBlock = some q → fv.ownBlock = some q ∨ W.heap.size ≤ q) → (fv' = fv ∨ fv'.ownBlock ≠ none) → PK a W') :
    C.wpIn (Fence.wide.inRound r) 8 Try.prog (onNormal PK) { tmps := #[.slice A n c, .int .i64 kd, undef, .pointer (some ⟨b3, 0, none⟩), .slice none 0 0, .pointer (some ⟨b5, 0, none⟩), .pointer (some ⟨b6, 0, none⟩), .int .i64 ((i : Nat) : Int), .pointer (some ⟨Bx, 0, none⟩), undef, undef, .slice A n c, .bool true, .bool false, v14, .slice A n c, .int .i64 (n : Nat), .slice (some ⟨BT, 0, none⟩) n n, .slice A n c, v19, .int .i64 ((i : Nat) : Int), vn, undef, undef, undef, undef, undef, undef, undef, undef, undef, undef, undef, undef, undef, undef, undef, undef, undef, undef, undef, undef, undef, undef, undef, undef, undef, undef, undef, undef, undef, undef, undef, undef, undef, undef, undef, undef, undef, undef], defers := [] } W := by
  simp only [Try.f24, Option.getD_some, cFst, cSnd, cBlock, cBody] at hC
  subst hC
  have hBl : Bx < W.heap.size := (Array.getElem?_eq_some_iff.1 hbx).1
  have hxn : Blk W Bx [.int .i64 kn, .string nm, .int .i64 nlo, .int .i64 nhi, .slice K ks.length cK] := ⟨hBl, fun k y hy => ⟨by rw [cell_of_row W Bx k _ _ (0, 0) hbx]; simpa using hy, by simp [World.frozen?, show W.heap[Bx]? = _ from hbx]⟩⟩
  have hTx : BT ≠ Bx := fun e => by
    rcases hT.2 with ⟨e1, -⟩ | ⟨g1, c1, cur1, e1, -, hq1, -⟩
    · cases e1
    injection e1 with e1
    injection e1 with e1
    injection e1 with e1
    rw [← e1, e, hbx] at hq1
    injection hq1 with hq1
    injection hq1 with _ e3 _
    exact absurd e3 (by decide)
  have hT6 : BT ≠ b6 := boxed_off x6 hT (by decide)
  have hT5 : BT ≠ b5 := boxed_off x5 hT (by decide)
  have hlT := (hT.lt _ rfl).2
  -- what holds as long as the marks alone are stored into
  have HW := Lib.hid (show ∀ W', Left (fun k => k = BT) W W' → W'.cell? ⟨b3, 0, none⟩ = some (.int .i64 kd) ∧ Boxed W' b5 27 fv ∧ Boxed W' b6 44 (.slice (some ⟨BT, 0, none⟩) n n) ∧ W'.ownsRow lo 3 1 fv fd.length (fd.map fun x => Value.int .i64 ((x : Nat) : Int)) ∧ Blk W' Bx [.int .i64 kn, .string nm, .int .i64 nlo, .int .i64 nhi, .slice K ks.length cK] ∧ Rd .i64 W' K ks.length ks from fun W' hL => by
    refine ⟨(World.cell?_of_block (w := W) (a := ⟨b3, 0, none⟩) (hL.block b3 (World.block_lt_of_cell? W _ h3) (fun e => n3 e.symm))).trans h3, (hL.block b5 x5.lt (fun e => hT5 e.symm)).trans x5, (hL.block b6 x6.lt (fun e => hT6 e.symm)).trans x6, own_same' hF (fun q e => hL.block q (hF.lt q e).2 (fun e2 => ?_)), hxn.same hL.size (hL.block Bx hBl (fun e => hTx e.symm)), ⟨hks.1, hks.2.1, fun h0 => ?_⟩⟩
    · subst e2
      rcases hF.2 with ⟨e1, -⟩ | ⟨g1, c1, cur1, e1, -, hq1, -⟩
      · rw [e1] at e; cases e
      rcases hT.2 with ⟨e2, -⟩ | ⟨g2, c2, cur2, e2, -, hq2, -⟩
      · cases e2
      rw [e1] at e
      have e : some g1 = some q := e
      injection e with e
      injection e2 with e2
      injection e2 with e2
      injection e2 with e2
      rw [e] at hq1
      rw [← e2, hq1] at hq2
      injection hq2 with hq2
      injection hq2 with _ e3 _
      exact absurd e3 (by decide)
    · obtain ⟨b, off, e, hc⟩ := hks.2.2 h0
      exact ⟨b, off, e, fun j hj => (World.cell?_of_block (w := W) (a := ⟨b, off + j, none⟩) (hL.block b (World.block_lt_of_cell? W _ (hc j hj)) (hKl _ e h0))).trans (hc j hj)⟩)
  obtain ⟨b, hb⟩ : ∃ b, (T i || decide (kn = 19)) = b := ⟨_, rfl⟩
  rw [hb] at hK
  have k0 := hxn.cell 0 rfl
  have k4 := hxn.cell 4 rfl
  have hini : ((i : Nat) : Int) < ((n : Nat) : Int) := by omega
  obtain ⟨m, hm⟩ : ∃ m, ks.length = m := ⟨_, rfl⟩
  have HM := Lib.hid hm
  rw [hm] at hk k4 hkc hk2
  have HT0 := Lib.hid (show W.ownsRow lo 4 1 (.slice (some ⟨BT, 0, none⟩) n n) n (rowB n (setKs T (ks.take 0) b)) from by
    have e : setKs T (ks.take 0) b = T := by funext x; unfold setKs; rw [List.take_zero, if_neg (fun h => by cases h)]
    rw [e]; exact hT)
  have hm2 : ((m : Nat) : Int) ≤ 2 := by omega
  have HX6 := Lib.hid (And.intro hTx (And.intro hT6 hT5))
  have HTT := Lib.hid hT
  have HFD := Lib.hid hfd
  clear h3 x5 x6 hT hF hbx hks hxn hlT hm hT6 hT5 hfd
  dsimp only
  refine wpIn_block ?_
  refine wpIn_seq_k ?_
  intro K1 hK1
  refine wpIn_seq_k ?_
  intro K2 hK2
  refine region_all (by kernel_rfl) (fun _ _ h => h) ?_
  go_wp2_with fail
  clear k4 k0
  have HK1 := Lib.hid hK1
  clear hK1
  refine wpIn_block ?_
  gi_loopw [25] (fun v wr => ∃ j : Nat, v = .int .i64 (j : Nat) ∧ j ≤ m ∧ wr.ownsRow lo 4 1 (.slice (some ⟨BT, 0, none⟩) n n) n (rowB n (setKs T (ks.take j) b)) ∧ Left (fun k => k = BT) W wr) (fun v _ => m - (intOf v).toNat)
  case atStart => exact ⟨0, rfl, Nat.zero_le _, HT0.out, Left.refl _ _⟩
  case round =>
    obtain ⟨j, rfl, hjm, hrow, hL⟩ := hrel
    have HROW := Lib.hid hrow
    have HL := Lib.hid hL
    obtain ⟨q3, q5, q6, qF, qB, qK⟩ := HW.out wr hL
    by_cases hlt : j < m
    · obtain ⟨k, hkj, hki, htk⟩ := hk j hlt
      obtain ⟨Kb, ko, rfl, hcs⟩ := qK.2.2 (by have := HM.out; omega)
      have hkc0 := hcs j (by have := HM.out; omega)
      rw [hkj] at hkc0
      have hTi : setKs T (ks.take j) b i = T i := by
        unfold setKs
        rw [if_neg]
        intro hmem
        obtain ⟨p, hp, hpe⟩ := List.getElem_of_mem hmem
        have hpl : p < j := by rw [List.length_take] at hp; omega
        obtain ⟨k2, hk2e, hk2i, -⟩ := hk p (by omega)
        have h9 : (ks.take j)[p] = ks[p]'(by have := HM.out; omega) := List.getElem_take
        rw [h9] at hpe
        rw [List.getElem?_eq_getElem (by have := HM.out; omega)] at hk2e
        have h8 : ks[p]'(by have := HM.out; omega) = ((k2 : Nat) : Int) := hk2e
        omega
      have hkn : k < n := by omega
      have ct := hrow.cells (g := BT) rfl i _ (rowB_at hi)
      rw [hTi, Addr.add_lit, Nat.zero_add] at ct
      have ck := hrow.cells (g := BT) rfl k _ (rowB_at hkn)
      rw [Addr.add_lit, Nat.zero_add] at ck
      have fk := own_fz hrow k
      have c6 := q6.cell
      have c0 := qB.cell 0 rfl
      have HNX := Lib.hid (show (wr.setCell ⟨BT, k, none⟩ (.bool b)).ownsRow lo 4 1 (.slice (some ⟨BT, 0, none⟩) n n) n (rowB n (setKs T (ks.take (j + 1)) b)) from by
        have := own_put (k := k) hrow (.bool b)
        rw [rowB_set, setKs_take htk] at this
        exact this)
      have HLX := Lib.hid (hL.set ⟨BT, k, none⟩ (.bool b) rfl)
      have hkn' : ((k : Nat) : Int) < ((n : Nat) : Int) := by omega
      have hdn : Below wr.heap.size wr wr.drew := (Below.refl _ _).drew
      obtain ⟨u, hu⟩ : ∃ u, setKs T (ks.take j) b k = u := ⟨_, rfl⟩
      rw [hu] at ck
      have HND := Lib.hid (show (wr.drew.setCell ⟨BT, k, none⟩ (.bool b)).ownsRow lo 4 1 (.slice (some ⟨BT, 0, none⟩) n n) n (rowB n (setKs T (ks.take (j + 1)) b)) ∧ Left (fun k => k = BT) W (wr.drew.setCell ⟨BT, k, none⟩ (.bool b)) from by
        refine ⟨?_, (hL.trans (Left.of_below hdn)).set ⟨BT, k, none⟩ (.bool b) rfl⟩
        have := own_put (k := k) (Mem.below_row hrow hdn) (.bool b)
        rw [rowB_set, setKs_take htk] at this
        exact this)
      obtain ⟨ti, hti⟩ : ∃ ti, T i = ti := ⟨_, rfl⟩
      rw [hti] at ct hb
      have HSS := Lib.hid (show wr.drew.cell? ⟨b6, 0, none⟩ = some (.slice (some ⟨BT, 0, none⟩) n n) ∧ wr.drew.cell? ⟨BT, i, none⟩ = some (.bool ti) ∧ wr.drew.cell? ⟨Bx, 0, none⟩ = some (.int .i64 kn) from ⟨c6, ct, c0⟩)
      have HCK := Lib.hid (show wr.drew.cell? ⟨BT, k, none⟩ = some (.bool u) ∧ wr.drew.frozen? ⟨BT, k, none⟩ = false from ⟨ck, fk⟩)
      have hjm' : ((j : Nat) : Int) < ((m : Nat) : Int) := by omega
      clear hrow hL q3 q5 q6 qF qB qK hcs hu hTi ct ck fk c6 c0 hkj htk hdn
      gi_wp2
      cases ti with
      | true =>
        obtain rfl : true = b := by rw [← hb]; rfl
        refine region_late (fun V => V.cell? ⟨b6, 0, none⟩ = some (.slice (some ⟨BT, 0, none⟩) n n) ∧ V.cell? ⟨BT, i, none⟩ = some (.bool true) ∧ V.cell? ⟨Bx, 0, none⟩ = some (.int .i64 kn)) [12] (by kernel_rfl) (by kernel_rfl) (fun _ _ h => h) HSS.out (fun hHeld => ?_)
        refine Late.take (i := 0) (oi := ?tko1) (v := ?tkv1) ?tkh1 (by kernel_rfl) (by kernel_rfl) (by kernel_rfl) (by kernel_rfl) ?tkq1 ?tky1 hHeld ?tkr1
        case tkh1 => (simp only [List.getElem?_toArray, List.getElem?_cons_zero]; rfl)
        case tkq1 => exact fun _ _ _ h => h
        case tky1 => exact Or.inl ⟨by rfl, by intro wSw hSw; (try dsimp only at hSw); go_simp; try with_reducible rfl⟩
        try simp only [Act.put, List.setIfInBounds_toArray, List.set_cons_zero, List.set_cons_succ]
        refine Late.take (i := 1) (oi := ?tko2) (v := ?tkv2) ?tkh2 (by kernel_rfl) (by kernel_rfl) (by kernel_rfl) (by kernel_rfl) ?tkq2 ?tky2 hHeld ?tkr2
        case tkh2 => (simp only [List.getElem?_toArray, List.getElem?_cons_succ, List.getElem?_cons_zero]; rfl)
        case tkq2 => exact fun _ _ _ h => h
        case tky2 => exact Or.inl ⟨by rfl, by intro wSw hSw; (try dsimp only at hSw); go_simp; try with_reducible rfl⟩
        try simp only [Act.put, List.setIfInBounds_toArray, List.set_cons_zero, List.set_cons_succ]
        refine Late.take (i := 2) (oi := ?tko3) (v := ?tkv3) ?tkh3 (by kernel_rfl) (by kernel_rfl) (by kernel_rfl) (by kernel_rfl) ?tkq3 ?tky3 hHeld ?tkr3
        case tkh3 => (simp only [List.getElem?_toArray, List.getElem?_cons_succ, List.getElem?_cons_zero]; rfl)
        case tkq3 => exact fun _ _ _ h => h
        case tky3 => exact Or.inl ⟨by rfl, by intro wSw hSw; (try dsimp only at hSw); go_simp; try with_reducible rfl⟩
        try simp only [Act.put, List.setIfInBounds_toArray, List.set_cons_zero, List.set_cons_succ]
        refine Late.take (i := 3) (oi := ?tko4) (v := ?tkv4) ?tkh4 (by kernel_rfl) (by kernel_rfl) (by kernel_rfl) (by kernel_rfl) ?tkq4 ?tky4 hHeld ?tkr4
        case tkh4 => (simp only [List.getElem?_toArray, List.getElem?_cons_succ, List.getElem?_cons_zero]; rfl)
        case tkq4 => exact fun _ _ _ h => h
        case tky4 => exact Or.inl ⟨by rfl, by intro wSw hSw; (try dsimp only at hSw); go_simp; try with_reducible rfl⟩
        try simp only [Act.put, List.setIfInBounds_toArray, List.set_cons_zero, List.set_cons_succ]
        refine Late.take (i := 4) (oi := ?tko5) (v := ?tkv5) ?tkh5 (by kernel_rfl) (by kernel_rfl) (by kernel_rfl) (by kernel_rfl) ?tkq5 ?tky5 hHeld ?tkr5
        case tkh5 => (simp only [List.getElem?_toArray, List.getElem?_cons_succ, List.getElem?_cons_zero]; rfl)
        case tkq5 => exact fun _ _ _ h => h
        case tky5 => exact Or.inl ⟨by rfl, by intro wSw hSw; (try dsimp only at hSw); go_simp; try with_reducible rfl⟩
        try simp only [Act.put, List.setIfInBounds_toArray, List.set_cons_zero, List.set_cons_succ]
        refine Late.take (i := 5) (oi := ?tko6) (v := ?tkv6) ?tkh6 (by kernel_rfl) (by kernel_rfl) (by kernel_rfl) (by kernel_rfl) ?tkq6 ?tky6 hHeld ?tkr6
        case tkh6 => (simp only [List.getElem?_toArray, List.getElem?_cons_succ, List.getElem?_cons_zero]; rfl)
        case tkq6 => exact fun _ _ _ h => h
        case tky6 => exact Or.inl ⟨by rfl, by intro wSw hSw; (try dsimp only at hSw); go_simp; try with_reducible rfl⟩
        try simp only [Act.put, List.setIfInBounds_toArray, List.set_cons_zero, List.set_cons_succ]
        refine Late.take (i := 6) (oi := ?tko7) (v := ?tkv7) ?tkh7 (by kernel_rfl) (by kernel_rfl) (by kernel_rfl) (by kernel_rfl) ?tkq7 ?tky7 hHeld ?tkr7
        case tkh7 => (simp only [List.getElem?_toArray, List.getElem?_cons_succ, List.getElem?_cons_zero]; rfl)
        case tkq7 => exact fun _ _ _ h => h
        case tky7 => exact Or.inl ⟨by rfl, by intro wSw hSw; (try dsimp only at hSw); go_simp; try with_reducible rfl⟩
        try simp only [Act.put, List.setIfInBounds_toArray, List.set_cons_zero, List.set_cons_succ]
        refine Late.take (i := 7) (oi := ?tko8) (v := undef) ?tkh8 (by kernel_rfl) (by kernel_rfl) (by kernel_rfl) (by kernel_rfl) ?tkq8 ?tky8 hHeld ?tkr8
        case tkh8 => (simp only [List.getElem?_toArray, List.getElem?_cons_succ, List.getElem?_cons_zero]; rfl)
        case tkq8 => exact fun _ _ _ h => h
        case tky8 => exact Or.inr ⟨by rfl, rfl⟩
        try simp only [Act.put, List.setIfInBounds_toArray, List.set_cons_zero, List.set_cons_succ]
        refine Late.take (i := 8) (oi := ?tko9) (v := undef) ?tkh9 (by kernel_rfl) (by kernel_rfl) (by kernel_rfl) (by kernel_rfl) ?tkq9 ?tky9 hHeld ?tkr9
        case tkh9 => (simp only [List.getElem?_toArray, List.getElem?_cons_succ, List.getElem?_cons_zero]; rfl)
        case tkq9 => exact fun _ _ _ h => h
        case tky9 => exact Or.inr ⟨by rfl, rfl⟩
        try simp only [Act.put, List.setIfInBounds_toArray, List.set_cons_zero, List.set_cons_succ]
        refine Late.take (i := 9) (oi := ?tko10) (v := undef) ?tkh10 (by kernel_rfl) (by kernel_rfl) (by kernel_rfl) (by kernel_rfl) ?tkq10 ?tky10 hHeld ?tkr10
        case tkh10 => (simp only [List.getElem?_toArray, List.getElem?_cons_succ, List.getElem?_cons_zero]; rfl)
        case tkq10 => exact fun _ _ _ h => h
        case tky10 => exact Or.inr ⟨by rfl, rfl⟩
        try simp only [Act.put, List.setIfInBounds_toArray, List.set_cons_zero, List.set_cons_succ]
        refine Late.take (i := 10) (oi := ?tko11) (v := ?tkv11) ?tkh11 (by kernel_rfl) (by kernel_rfl) (by kernel_rfl) (by kernel_rfl) ?tkq11 ?tky11 hHeld ?tkr11
        case tkh11 => (simp only [List.getElem?_toArray, List.getElem?_cons_succ, List.getElem?_cons_zero]; rfl)
        case tkq11 => exact fun _ _ _ h => h
        case tky11 => exact Or.inl ⟨by rfl, by intro wSw hSw; (try dsimp only at hSw); go_simp; try with_reducible rfl⟩
        try simp only [Act.put, List.setIfInBounds_toArray, List.set_cons_zero, List.set_cons_succ]
        refine Late.take (i := 11) (oi := ?tko12) (v := ?tkv12) ?tkh12 (by kernel_rfl) (by kernel_rfl) (by kernel_rfl) (by kernel_rfl) ?tkq12 ?tky12 hHeld ?tkr12
        case tkh12 => (simp only [List.getElem?_toArray, List.getElem?_cons_succ, List.getElem?_cons_zero]; rfl)
        case tkq12 => exact fun _ _ _ h => h
        case tky12 => exact Or.inl ⟨by rfl, by intro wSw hSw; (try dsimp only at hSw); go_simp; try with_reducible rfl⟩
        try simp only [Act.put, List.setIfInBounds_toArray, List.set_cons_zero, List.set_cons_succ]
        have ck : wr.cell? ⟨BT, k, none⟩ = some (.bool u) := HCK.out.1
        have fk : wr.frozen? ⟨BT, k, none⟩ = false := HCK.out.2
        refine Late.last (k := 12) (o := ?tko13) (by kernel_rfl) (by kernel_rfl) ?tkh13 (fun Kt13 hKt13 => ?_)
        case tkh13 => (simp only [List.getElem?_toArray, List.getElem?_cons_succ, List.getElem?_cons_zero]; rfl)
        go_simp
        refine hKt13.out _ _ trivial (fun hHt13 => ?_)
        clear hKt13 Kt13 hHeld
        have hHeld := hHt13
        clear hHt13
        try simp only [Act.put, List.setIfInBounds_toArray, List.set_cons_zero, List.set_cons_succ]
        clear ck fk
        refine wpAnyH_done (by kernel_rfl) ?_ _
        clear hHeld
        gi_wp2
        go_roundw
        case rel => exact ⟨j + 1, by simp, by omega, HND.out.1, HND.out.2⟩
        case measure => (show m - (j + 1) < m - j; omega)
      | false =>
        have hkb : (kn == 19) = b := by rw [← hb, Bool.false_or]; rfl
        refine region_late (fun V => V.cell? ⟨b6, 0, none⟩ = some (.slice (some ⟨BT, 0, none⟩) n n) ∧ V.cell? ⟨BT, i, none⟩ = some (.bool false) ∧ V.cell? ⟨Bx, 0, none⟩ = some (.int .i64 kn)) [12] (by kernel_rfl) (by kernel_rfl) (fun _ _ h => h) HSS.out (fun hHeld => ?_)
        refine Late.take (i := 0) (oi := ?tko14) (v := ?tkv14) ?tkh14 (by kernel_rfl) (by kernel_rfl) (by kernel_rfl) (by kernel_rfl) ?tkq14 ?tky14 hHeld ?tkr14
        case tkh14 => (simp only [List.getElem?_toArray, List.getElem?_cons_zero]; rfl)
        case tkq14 => exact fun _ _ _ h => h
        case tky14 => exact Or.inl ⟨by rfl, by intro wSw hSw; (try dsimp only at hSw); go_simp; try with_reducible rfl⟩
        try simp only [Act.put, List.setIfInBounds_toArray, List.set_cons_zero, List.set_cons_succ]
        refine Late.take (i := 1) (oi := ?tko15) (v := ?tkv15) ?tkh15 (by kernel_rfl) (by kernel_rfl) (by kernel_rfl) (by kernel_rfl) ?tkq15 ?tky15 hHeld ?tkr15
        case tkh15 => (simp only [List.getElem?_toArray, List.getElem?_cons_succ, List.getElem?_cons_zero]; rfl)
        case tkq15 => exact fun _ _ _ h => h
        case tky15 => exact Or.inl ⟨by rfl, by intro wSw hSw; (try dsimp only at hSw); go_simp; try with_reducible rfl⟩
        try simp only [Act.put, List.setIfInBounds_toArray, List.set_cons_zero, List.set_cons_succ]
        refine Late.take (i := 2) (oi := ?tko16) (v := ?tkv16) ?tkh16 (by kernel_rfl) (by kernel_rfl) (by kernel_rfl) (by kernel_rfl) ?tkq16 ?tky16 hHeld ?tkr16
        case tkh16 => (simp only [List.getElem?_toArray, List.getElem?_cons_succ, List.getElem?_cons_zero]; rfl)
        case tkq16 => exact fun _ _ _ h => h
        case tky16 => exact Or.inl ⟨by rfl, by intro wSw hSw; (try dsimp only at hSw); go_simp; try with_reducible rfl⟩
        try simp only [Act.put, List.setIfInBounds_toArray, List.set_cons_zero, List.set_cons_succ]
        refine Late.take (i := 3) (oi := ?tko17) (v := ?tkv17) ?tkh17 (by kernel_rfl) (by kernel_rfl) (by kernel_rfl) (by kernel_rfl) ?tkq17 ?tky17 hHeld ?tkr17
        case tkh17 => (simp only [List.getElem?_toArray, List.getElem?_cons_succ, List.getElem?_cons_zero]; rfl)
        case tkq17 => exact fun _ _ _ h => h
        case tky17 => exact Or.inl ⟨by rfl, by intro wSw hSw; (try dsimp only at hSw); go_simp; try with_reducible rfl⟩
        try simp only [Act.put, List.setIfInBounds_toArray, List.set_cons_zero, List.set_cons_succ]
        refine Late.take (i := 4) (oi := ?tko18) (v := ?tkv18) ?tkh18 (by kernel_rfl) (by kernel_rfl) (by kernel_rfl) (by kernel_rfl) ?tkq18 ?tky18 hHeld ?tkr18
        case tkh18 => (simp only [List.getElem?_toArray, List.getElem?_cons_succ, List.getElem?_cons_zero]; rfl)
        case tkq18 => exact fun _ _ _ h => h
        case tky18 => exact Or.inl ⟨by rfl, by intro wSw hSw; (try dsimp only at hSw); go_simp; try with_reducible rfl⟩
        try simp only [Act.put, List.setIfInBounds_toArray, List.set_cons_zero, List.set_cons_succ]
        refine Late.take (i := 5) (oi := ?tko19) (v := ?tkv19) ?tkh19 (by kernel_rfl) (by kernel_rfl) (by kernel_rfl) (by kernel_rfl) ?tkq19 ?tky19 hHeld ?tkr19
        case tkh19 => (simp only [List.getElem?_toArray, List.getElem?_cons_succ, List.getElem?_cons_zero]; rfl)
        case tkq19 => exact fun _ _ _ h => h
        case tky19 => exact Or.inl ⟨by rfl, by intro wSw hSw; (try dsimp only at hSw); go_simp; try with_reducible rfl⟩
        try simp only [Act.put, List.setIfInBounds_toArray, List.set_cons_zero, List.set_cons_succ]
        refine Late.take (i := 6) (oi := ?tko20) (v := ?tkv20) ?tkh20 (by kernel_rfl) (by kernel_rfl) (by kernel_rfl) (by kernel_rfl) ?tkq20 ?tky20 hHeld ?tkr20
        case tkh20 => (simp only [List.getElem?_toArray, List.getElem?_cons_succ, List.getElem?_cons_zero]; rfl)
        case tkq20 => exact fun _ _ _ h => h
        case tky20 => exact Or.inl ⟨by rfl, by intro wSw hSw; (try dsimp only at hSw); go_simp; try with_reducible rfl⟩
        try simp only [Act.put, List.setIfInBounds_toArray, List.set_cons_zero, List.set_cons_succ]
        refine Late.take (i := 7) (oi := ?tko21) (v := ?tkv21) ?tkh21 (by kernel_rfl) (by kernel_rfl) (by kernel_rfl) (by kernel_rfl) ?tkq21 ?tky21 hHeld ?tkr21
        case tkh21 => (simp only [List.getElem?_toArray, List.getElem?_cons_succ, List.getElem?_cons_zero]; rfl)
        case tkq21 => exact fun _ _ _ h => h
        case tky21 => exact Or.inl ⟨by rfl, by intro wSw hSw; (try dsimp only at hSw); go_simp; try with_reducible rfl⟩
        try simp only [Act.put, List.setIfInBounds_toArray, List.set_cons_zero, List.set_cons_succ]
        refine Late.take (i := 8) (oi := ?tko22) (v := ?tkv22) ?tkh22 (by kernel_rfl) (by kernel_rfl) (by kernel_rfl) (by kernel_rfl) ?tkq22 ?tky22 hHeld ?tkr22
        case tkh22 => (simp only [List.getElem?_toArray, List.getElem?_cons_succ, List.getElem?_cons_zero]; rfl)
        case tkq22 => exact fun _ _ _ h => h
        case tky22 => exact Or.inl ⟨by rfl, by intro wSw hSw; (try dsimp only at hSw); go_simp; try with_reducible rfl⟩
        try simp only [Act.put, List.setIfInBounds_toArray, List.set_cons_zero, List.set_cons_succ]
        refine Late.take (i := 9) (oi := ?tko23) (v := ?tkv23) ?tkh23 (by kernel_rfl) (by kernel_rfl) (by kernel_rfl) (by kernel_rfl) ?tkq23 ?tky23 hHeld ?tkr23
        case tkh23 => (simp only [List.getElem?_toArray, List.getElem?_cons_succ, List.getElem?_cons_zero]; rfl)
        case tkq23 => exact fun _ _ _ h => h
        case tky23 => exact Or.inl ⟨by rfl, by intro wSw hSw; (try dsimp only at hSw); go_simp; try with_reducible rfl⟩
        try simp only [Act.put, List.setIfInBounds_toArray, List.set_cons_zero, List.set_cons_succ]
        refine Late.take (i := 10) (oi := ?tko24) (v := ?tkv24) ?tkh24 (by kernel_rfl) (by kernel_rfl) (by kernel_rfl) (by kernel_rfl) ?tkq24 ?tky24 hHeld ?tkr24
        case tkh24 => (simp only [List.getElem?_toArray, List.getElem?_cons_succ, List.getElem?_cons_zero]; rfl)
        case tkq24 => exact fun _ _ _ h => h
        case tky24 => exact Or.inl ⟨by rfl, by intro wSw hSw; (try dsimp only at hSw); go_simp; try with_reducible rfl⟩
        try simp only [Act.put, List.setIfInBounds_toArray, List.set_cons_zero, List.set_cons_succ]
        refine Late.take (i := 11) (oi := ?tko25) (v := ?tkv25) ?tkh25 (by kernel_rfl) (by kernel_rfl) (by kernel_rfl) (by kernel_rfl) ?tkq25 ?tky25 hHeld ?tkr25
        case tkh25 => (simp only [List.getElem?_toArray, List.getElem?_cons_succ, List.getElem?_cons_zero]; rfl)
        case tkq25 => exact fun _ _ _ h => h
        case tky25 => exact Or.inl ⟨by rfl, by intro wSw hSw; (try dsimp only at hSw); go_simp; try with_reducible rfl⟩
        try simp only [Act.put, List.setIfInBounds_toArray, List.set_cons_zero, List.set_cons_succ]
        have ck : wr.cell? ⟨BT, k, none⟩ = some (.bool u) := HCK.out.1
        have fk : wr.frozen? ⟨BT, k, none⟩ = false := HCK.out.2
        refine Late.last (k := 12) (o := ?tko26) (by kernel_rfl) (by kernel_rfl) ?tkh26 (fun Kt26 hKt26 => ?_)
        case tkh26 => (simp only [List.getElem?_toArray, List.getElem?_cons_succ, List.getElem?_cons_zero]; rfl)
        go_simp
        refine hKt26.out _ _ trivial (fun hHt26 => ?_)
        clear hKt26 Kt26 hHeld
        have hHeld := hHt26
        clear hHt26
        try simp only [Act.put, List.setIfInBounds_toArray, List.set_cons_zero, List.set_cons_succ]
        clear ck fk
        refine wpAnyH_done (by kernel_rfl) ?_ _
        clear hHeld
        gi_wp2
        go_roundw
        case rel => exact ⟨j + 1, by simp, by omega, HND.out.1, HND.out.2⟩
        case measure => (show m - (j + 1) < m - j; omega)
    · obtain rfl : j = m := by omega
      have hjj : ¬ ((j : Nat) : Int) < ((j : Nat) : Int) := by omega
      have hTi : setKs T (ks.take j) b i = T i := by
        unfold setKs
        rw [if_neg]
        intro hmem
        obtain ⟨p, hp, hpe⟩ := List.getElem_of_mem hmem
        have hpl : p < j := by rw [List.length_take] at hp; omega
        obtain ⟨k2, hk2e, hk2i, -⟩ := hk p (by omega)
        have h9 : (ks.take j)[p] = ks[p]'(by have := HM.out; omega) := List.getElem_take
        rw [h9] at hpe
        rw [List.getElem?_eq_getElem (by have := HM.out; omega)] at hk2e
        have h8 : ks[p]'(by have := HM.out; omega) = ((k2 : Nat) : Int) := hk2e
        omega
      have ct := hrow.cells (g := BT) rfl i _ (rowB_at hi)
      rw [hTi, Addr.add_lit, Nat.zero_add] at ct
      have c6 := q6.cell
      have c0 := qB.cell 0 rfl
      have c5 := q5.cell
      have f5 := q5.frozen
      rw [List.take_of_length_le (by have := HM.out; omega)] at hrow
      have HROW := Lib.hid hrow
      have HF := Lib.hid qF
      have H5 := Lib.hid q5
      clear hrow hL q5 q6 qF qB qK hk
      have kc : ∀ x : Bool, (kn == kd) = x → decide (kn = kd) = x := fun x e => e
      gi_wp2
      refine HK1.out _ _ ?_
      refine wpIn_seq_k ?_
      intro K3 hK3
      have HK3 := Lib.hid hK3
      clear hK3
      cases hkd : (kn == kd) with
      | true =>
        have HKD := Lib.hid (kc _ hkd)
        cases hti : T i with
        | true =>
          rw [hti] at ct
          refine region_all (by kernel_rfl) (fun _ _ h => h) ?_
          go_wp2_with fail
          refine HK3.out _ _ (wpIn_cond_false rfl ?_)
          gi_wp2
          refine hK _ _ fv H5.out HROW.out ?_ (HL.out.more (fun k e => .inl e)) (fun q e => .inl e) (.inl rfl)
          rw [if_neg (by rw [hti]; simp)]
          exact HF.out
        | false =>
          rw [hti] at ct
          refine region_all (by kernel_rfl) (fun _ _ h => h) ?_
          go_wp2_with fail
          refine HK3.out _ _ (wpIn_cond_true rfl ?_)
          clear HK3
          obtain ⟨i1, hi1, hy0, hy1, hy2⟩ := info_parts infoI
          have hal : Below wr.heap.size wr (wr.alloc (.cells #[.int .i64 ((i : Nat) : Int)] 3)) := (Below.refl _ _).alloc (Nat.le_refl _) _
          have HY5 := Lib.hid (boxed_later H5.out hal)
          have HYF := Lib.hid (World.ownsRow.alloc HF.out (.cells #[.int .i64 ((i : Nat) : Int)] 3))
          have HYT := Lib.hid (Mem.below_row HROW.out hal)
          have HBS := Lib.hid (show lo ≤ (wr.alloc (.cells #[.int .i64 ((i : Nat) : Int)] 3)).heap.size ∧ fd.length + 1 ≤ maxLen ∧ (fd.length + 1) * 8 ≤ 140737488355328 from by
            have q : maxLen = 9223372036854775807 := rfl
            have := HL.out.size
            have := hal.size
            have := HFD.out
            exact ⟨by omega, by omega, by omega⟩)
          have HHAL := Lib.hid hal
          have HI := Lib.hid hi
          clear hal ct c6 c0
          refine region_all (by kernel_rfl) (fun _ _ h => h) ?_
          go_wp2_with (at_builtin; refine wpList_append_lies (w := wr.alloc (.cells #[.int .i64 ((i : Nat) : Int)] 3)) rfl (.tmp 53) (.tmp 55) 27 rfl lo 3 i1 _ 1 8 Try.underlying27 hi1 hy0 hy1 hy2 rfl (by decide) fv fd.length _ (by rfl) HYF.out ⟨wr.heap.size, 0, none⟩ 1 1 [.int .i64 ((i : Nat) : Int)] (by rfl) rfl (World.news_of_block (heap_alloc_new wr _)) (fun u hu => by rw [List.mem_singleton.1 hu]; rfl) (by decide) HBS.out.2.1 HBS.out.2.2 HBS.out.1 _ rfl ?_; intro q cap w3 hown hgr hq hlt; have hz5 := HY5.out.kept hgr (HY5.out.not_row (by decide) HYF.out); have y5 := hz5.cell; have z5 := hz5.frozen)
          have hq5 := boxed_off hz5 hown (by decide)
          have hgc := grown_cell w3 ⟨b5, 0, none⟩ (.slice (some ⟨q, 0, none⟩) (fd.length + 1) cap)
          refine hK _ _ (.slice (some ⟨q, 0, none⟩) (fd.length + 1) cap) (hz5.set _) ((HYT.out.kept hgr (.inr (fun e => row_ne HYT.out HYF.out (by decide) e.symm))).kept hgc (.inr (fun e => HX6.out.2.2 (by injection e)))) ?_ ?_ ?_ (.inr (fun e => by cases e))
          · rw [if_pos (by rw [HKD.out, hti]; rfl), List.length_append, List.map_append]
            exact hown.kept hgc (.inr (fun e => hq5 (by injection e)))
          · have h1 : Left (fun k => k = BT ∨ k = b5 ∨ fv.ownBlock = some k) W w3 := ((HL.out.more (fun k e => .inl e)).trans (Left.of_below HHAL.out)).trans ⟨hgr.os, hgr.tape, hgr.output, hgr.size, fun q hq hn => hgr.block q hq (fun e => hn (.inr (.inr e.symm)))⟩
            exact h1.set ⟨b5, 0, none⟩ _ (.inr (.inl rfl))
          · intro q' e
            have e : some q = some q' := e
            injection e with e
            rcases hq with h9 | h9
            · exact .inl (e ▸ h9)
            · have := HL.out.size
              have := HHAL.out.size
              exact .inr (by omega)
      | false =>
        have HKD := Lib.hid (kc _ hkd)
        clear ct
        refine region_all (by kernel_rfl) (fun _ _ h => h) ?_
        go_wp2_with fail
        refine HK3.out _ _ (wpIn_cond_false rfl ?_)
        gi_wp2
        refine hK _ _ fv H5.out HROW.out ?_ (HL.out.more (fun k e => .inl e)) (fun q e => .inl e) (.inl rfl)
        rw [if_neg (by rw [HKD.out]; simp)]
        exact HF.out
end Go.Proofs.Ytcpmcgbjmncalaa.Paths
