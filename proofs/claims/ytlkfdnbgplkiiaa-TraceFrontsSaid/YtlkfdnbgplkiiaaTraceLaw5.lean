/-
  The walk of the law TraceFronts. Written by wip/tools/genfronts8.py. By an AI agent.
-/
import Derived.Test.YtlkfdnbgplkiiaaTraceTells
import Derived.Test.YtlkfdnbgplkiiaaTraceAwake
import Derived.Test.YtlkfdnbgplkiiaaTraceTake
namespace Go.Proofs.Ytlkfdnbgplkiiaa.Trace
open Go.RowKit Go.Proofs.Ytlkfdnbgplkiiaa.Ints Go.Proofs.Ytlkfdnbgplkiiaa.Mem

set_option maxHeartbeats 16000000 in
set_option maxRecDepth 100000 in
theorem lawFronts (start : Int) (A : Option Addr) (n c : Nat) (zs : List Int) (w : World) (h0 : 0 ≤ start ∧ start ≤ 18446744073709551615) (hr : Rd .u16 w A n zs) (hc : n ≤ maxLen) :
    Calls Try.prog 7 #[.int .u64 start, .slice A n c] w fun e w' => e = .returned (.bool true) ∧ Below w.heap.size w w' := by
  have HA := Lib.hid (fun W => awake W)
  have HMK := Lib.hid (lawMake start A n c zs w h0 hr hc)
  obtain ⟨M, hM⟩ : ∃ M, makeM start zs = M := ⟨_, rfl⟩
  have hmay : mayT M = true := by rw [← hM]; exact make_may zs (fun z hz => (wf_u16 (hr.all z hz)).1)
  have hsm : TrSmall M := by rw [← hM]; exact make_trsmall zs
  have hl60 : M.events.length ≤ 60 := by rw [← hM]; exact (make_small start zs).1
  have HMAY := Lib.hid hmay
  have HSML := Lib.hid hsm
  have HUS := Lib.hid (fun k => (hsm.take k : TrSmall (upT M k)))
  rw [hM] at HMK
  obtain ⟨hs1, hs2⟩ := h0
  clear hM hr hc
  go_enter Try.func7, Try.ntmps7
  go_wp2_with fail
  refine (HMK.out).mono ?_
  rintro e w1 ⟨NU, un, uc, EU, ue, uk, rfl, hTU, hb1⟩
  have hle : ue ≤ 60 := by rw [← hTU.elen]; exact hl60
  have HL := Lib.hid hTU.elen
  obtain ⟨g5, hg5⟩ : ∃ g, w1.heap.size = g := ⟨_, rfl⟩
  obtain ⟨Y, hY⟩ : ∃ Y, w1.alloc (.cells #[.slice NU un uc, .slice EU ue uk] 26) = Y := ⟨_, rfl⟩
  have h1Y : Below w1.heap.size w1 Y := by rw [← hY]; exact (Below.refl _ _).alloc (Nat.le_refl _) _
  have DY := Lib.hid (hb1.trans (h1Y.mono hb1.size))
  have c50 : Y.cell? ⟨g5, 0, none⟩ = some (.slice NU un uc) := by rw [← hY, ← hg5]; exact box_cell 0 _ rfl
  have c51 : Y.cell? ⟨g5, 1, none⟩ = some (.slice EU ue uk) := by rw [← hY, ← hg5]; exact box_cell 1 _ rfl
  have H50 := Lib.hid c50
  have H51 := Lib.hid c51
  have HTY := Lib.hid (hTU.below h1Y)
  have hei : (ue : Int) ≤ 60 := by omega
  clear hTU hb1 h1Y
  have PC0 := Lib.hid (landCut NU un uc EU ue uk M (-1) Y HTY.out HSML.out ⟨by decide, by decide⟩)
  rw [up_cut HMAY.out] at PC0
  rw [show (-1 : Int).toNat = 0 from rfl] at PC0
  go_wp2_with fail
  refine (PC0.out).mono ?_
  rintro e Z ⟨N0, n0, c0, E0, m0, d0, rfl, hT0, hbz⟩
  have DZ := Lib.hid (DY.out.trans (hbz.mono DY.out.size))
  have HYZ := Lib.hid hbz
  obtain ⟨g6, hg6⟩ : ∃ g, Z.heap.size = g := ⟨_, rfl⟩
  have HG6 := Lib.hid hg6
  have z50 := below_cell hbz c50
  have z51 := below_cell hbz c51
  have a50 : ∀ o : Obj, (Z.alloc o).cell? ⟨g5, 0, none⟩ = some (.slice NU un uc) := fun o => Lib.cell?_alloc_marked o z50
  have a51 : ∀ o : Obj, (Z.alloc o).cell? ⟨g5, 1, none⟩ = some (.slice EU ue uk) := fun o => Lib.cell?_alloc_marked o z51
  have H0 := Lib.hid (show BoxS (Z.alloc (.cells #[.slice N0 n0 c0, .slice E0 m0 d0] 26)) g6 N0 n0 c0 E0 m0 d0 ∧ TrOk Any (Z.alloc (.cells #[.slice N0 n0 c0, .slice E0 m0 d0] 26)) N0 n0 c0 E0 m0 d0 (upT M 0) ∧ Below g6 Z (Z.alloc (.cells #[.slice N0 n0 c0, .slice E0 m0 d0] 26)) by
    rw [← hg6]
    exact ⟨BoxS.new _ _ _ _ _ _ _ _, hT0.below ((Below.refl _ _).alloc (Nat.le_refl _) _), (Below.refl _ _).alloc (Nat.le_refl _) _⟩)
  have H50Z := Lib.hid z50
  have H51Z := Lib.hid z51
  have HTZ := Lib.hid (HTY.out.below hbz)
  clear c50 c51 hT0 hbz
  go_wp2
  clear a50 a51 z50 z51
  go_loopw [19] (fun i wr => ∃ (k : Nat) (N1 : Option Addr) (n1 c1 : Nat) (E1 : Option Addr) (m1 d1 : Nat), k ≤ ue ∧ i = .int .i64 k ∧ Hid (BoxS wr g6 N1 n1 c1 E1 m1 d1 ∧ TrOk Any wr N1 n1 c1 E1 m1 d1 (upT M k) ∧ Below g6 Z wr)) (fun i _ => ue - (intOf i).toNat)
  case atStart => exact ⟨0, N0, n0, c0, E0, m0, d0, Nat.zero_le _, rfl, H0⟩
  case round =>
    obtain ⟨k, N1, n1, c1, E1, m1, d1, hk, rfl, HR⟩ := hrel
    have HZR := Lib.hid (show Below Z.heap.size Z wr by rw [HG6.out]; exact HR.out.2.2)
    have HTM := Lib.hid (HTZ.out.below HZR.out)
    have v50 := below_cell HZR.out H50Z.out
    have v51 := below_cell HZR.out H51Z.out
    have v60 := HR.out.1.1.cell 0 rfl
    have v61 := HR.out.1.1.cell 1 rfl
    have HT1 := Lib.hid HR.out.2.1
    have DR := Lib.hid (DZ.out.trans (HZR.out.mono DZ.out.size))
    by_cases hkn : k < ue
    · have hkn' : (k : Int) < (ue : Int) := by omega
      have hk0 : (0 : Int) ≤ (k : Int) := by omega
      have hkl : k < M.events.length := by rw [HL.out]; exact hkn
      obtain ⟨b, off, K, kc, e, x0, x1, hX⟩ := HTM.out.evs.kids hkl
      have hadd := up_add HMAY.out hkl
      obtain ⟨ev, hev⟩ : ∃ ev, M.events.getD k noEv = ev := ⟨_, rfl⟩
      rw [hev] at x0 x1 hX hadd
      have hevs : ev.ids.length ≤ 1048576 := HSML.out.ids ev (by rw [← hev]; exact getD_mem hkl)
      have PA := fun W (hb : Below wr.heap.size wr W) => landAdd N1 n1 c1 E1 m1 d1 (upT M k) ev K kc W (HT1.out.below hb) (HUS.out k) (hX.below hb) hevs
      rw [hadd.1, hadd.2] at PA
      obtain ⟨tm, htm⟩ : ∃ tm, ev.time = tm := ⟨_, rfl⟩
      obtain ⟨q, hq⟩ : ∃ q, ev.ids.length = q := ⟨_, rfl⟩
      rw [htm] at x0 PA
      rw [hq] at x1 PA
      have HPA := Lib.hid PA
      subst e
      have a60 : ∀ o : Obj, (wr.alloc o).cell? ⟨g6, 0, none⟩ = some (.slice N1 n1 c1) := fun o => Lib.cell?_alloc_marked o v60
      have a61 : ∀ o : Obj, (wr.alloc o).cell? ⟨g6, 1, none⟩ = some (.slice E1 m1 d1) := fun o => Lib.cell?_alloc_marked o v61
      clear hX hadd hev hevs PA htm hq
      go_wp2_with fail
      have ha := (Below.refl wr.heap.size wr).alloc (Nat.le_refl _) (.cells #[.int .u64 tm, .slice K q kc] 39)
      refine (HPA.out _ ha).mono ?_
      rintro e w2 ⟨N2, n2, c2, E2, m2, d2, rfl, hT2, hb2⟩
      have hw2 := ha.trans (hb2.mono ha.size)
      have HW2 := Lib.hid hw2
      clear x0 x1 a60 a61
      obtain ⟨V, hV⟩ : ∃ V, w2.alloc (.cells #[.slice N2 n2 c2, .slice E2 m2 d2] 26) = V := ⟨_, rfl⟩
      have h2V : Below w2.heap.size w2 V := by rw [← hV]; exact (Below.refl _ _).alloc (Nat.le_refl _) _
      have hwV := hw2.trans (h2V.mono hw2.size)
      have y90 : V.cell? ⟨w2.heap.size, 0, none⟩ = some (.slice N2 n2 c2) := by rw [← hV]; exact box_cell 0 _ rfl
      have y91 : V.cell? ⟨w2.heap.size, 1, none⟩ = some (.slice E2 m2 d2) := by rw [← hV]; exact box_cell 1 _ rfl
      have y50 := below_cell hwV v50
      have y51 := below_cell hwV v51
      have y60 := below_cell hwV v60
      have y61 := below_cell hwV v61
      have HS := Lib.hid (show ∀ W, Below V.heap.size V W → W.cell? ⟨g5, 0, none⟩ = some (.slice NU un uc) ∧ W.cell? ⟨g5, 1, none⟩ = some (.slice (some ⟨b, off, none⟩) ue uk) ∧ W.cell? ⟨g6, 0, none⟩ = some (.slice N1 n1 c1) ∧ W.cell? ⟨g6, 1, none⟩ = some (.slice E1 m1 d1) ∧ W.cell? ⟨w2.heap.size, 0, none⟩ = some (.slice N2 n2 c2) ∧ W.cell? ⟨w2.heap.size, 1, none⟩ = some (.slice E2 m2 d2) ∧ Below V.heap.size V W from
        fun W hb => ⟨below_cell hb y50, below_cell hb y51, below_cell hb y60, below_cell hb y61, below_cell hb y90, below_cell hb y91, hb⟩)
      have HV2 := Lib.hid (hT2.below h2V)
      have HV1 := Lib.hid (HT1.out.below hwV)
      have HVM := Lib.hid (HTM.out.below hwV)
      have HVB := Lib.hid (HR.out.1.later hwV)
      have HVZ := Lib.hid (HR.out.2.2.trans (hwV.mono (by have h1 := HZR.out.size; have h2 := HG6.out; omega)))
      have hkM : k + 1 ≤ M.events.length := hkl
      have PM := fun W (hb : Below V.heap.size V W) => landMay N2 n2 c2 E2 m2 d2 (upT M (k + 1)) W (HV2.out.below hb)
      rw [up_may HMAY.out] at PM
      have PF1 := fun W (hb : Below V.heap.size V W) => landFront N1 n1 c1 E1 m1 d1 N2 n2 c2 E2 m2 d2 (upT M k) (upT M (k + 1)) W (HV1.out.below hb) (HV2.out.below hb)
      rw [up_front HMAY.out (by omega), decide_eq_true (show k ≤ k + 1 by omega)] at PF1
      have PF2 := fun W (hb : Below V.heap.size V W) => landFront N2 n2 c2 E2 m2 d2 N1 n1 c1 E1 m1 d1 (upT M (k + 1)) (upT M k) W (HV2.out.below hb) (HV1.out.below hb)
      rw [up_front HMAY.out (by omega), decide_eq_false (show ¬ k + 1 ≤ k by omega)] at PF2
      have PF3 := fun W (hb : Below V.heap.size V W) => landFront N2 n2 c2 E2 m2 d2 NU un uc (some ⟨b, off, none⟩) ue uk (upT M (k + 1)) M W (HV2.out.below hb) (HVM.out.below hb)
      rw [up_front_all HMAY.out (by omega)] at PF3
      have PC := fun W (hb : Below V.heap.size V W) => landCut NU un uc (some ⟨b, off, none⟩) ue uk M ((k : Int) + 1) W (HVM.out.below hb) HSML.out ⟨by omega, by omega⟩
      rw [up_cut HMAY.out, show ((k : Int) + 1).toNat = k + 1 by omega] at PC
      have SM := Lib.hid (fun (N1 : Option Addr) (a1 b1 : Nat) (E1 : Option Addr) (c1 d1 : Nat) (N2 : Option Addr) (a2 b2 : Nat) (E2 : Option Addr) (c2 d2 : Nat) W (h1 : TrOk Any W N1 a1 b1 E1 c1 d1 (upT M (k + 1))) (h2 : TrOk Any W N2 a2 b2 E2 c2 d2 (upT M (k + 1))) => by
        have := refSameTrace N1 a1 b1 E1 c1 d1 N2 a2 b2 E2 c2 d2 (upT M (k + 1)) (upT M (k + 1)) W h1 h2
        rw [decide_eq_true rfl] at this
        exact this)
      have PM := Lib.hid PM
      have PF1 := Lib.hid PF1
      have PF2 := Lib.hid PF2
      have PF3 := Lib.hid PF3
      have PC := Lib.hid PC
      have HGV := Lib.hid (show g6 < V.heap.size from HVB.out.1.1)
      have hadd64 : IntKind.i64.wrap ((k : Int) + 1) = (k : Int) + 1 := IntWalk.i64_in _ (by omega)
      clear hT2 hb2 hw2 h2V hwV y50 y51 y60 y61 y90 y91 v50 v51 v60 v61 hkl ha
      go_wp2_with fail
      clear hV
      refine wp_region_held_drew (S := (fun W => W.cell? ⟨g5, 0, none⟩ = some (.slice NU un uc) ∧ W.cell? ⟨g5, 1, none⟩ = some (.slice (some ⟨b, off, none⟩) ue uk) ∧ W.cell? ⟨g6, 0, none⟩ = some (.slice N1 n1 c1) ∧ W.cell? ⟨g6, 1, none⟩ = some (.slice E1 m1 d1) ∧ W.cell? ⟨w2.heap.size, 0, none⟩ = some (.slice N2 n2 c2) ∧ W.cell? ⟨w2.heap.size, 1, none⟩ = some (.slice E2 m2 d2) ∧ Below V.heap.size V W)) (by kernel_rfl) (HS.out _ (Below.refl _ _).drew) (fun hHeld => ?_)
      refine wpAnyH_take (i := 0) (oi := ?tko1) (v := ?tkv1) ?tkh1 (by kernel_rfl) (by kernel_rfl) (by kernel_rfl) ?tkq1 ?tky1 hHeld ?tkr1
      case tkh1 => (simp only [List.getElem?_toArray, List.getElem?_cons_zero]; rfl)
      case tkq1 => exact fun _ _ _ h => h
      case tky1 => exact Or.inl ⟨by rfl, by intro wSw hSw; (try dsimp only at hSw); go_simp; try with_reducible rfl⟩
      try simp only [Act.put, List.setIfInBounds_toArray, List.set_cons_zero, List.set_cons_succ]
      refine wpAnyH_take (i := 1) (oi := ?tko2) (v := ?tkv2) ?tkh2 (by kernel_rfl) (by kernel_rfl) (by kernel_rfl) ?tkq2 ?tky2 hHeld ?tkr2
      case tkh2 => (simp only [List.getElem?_toArray, List.getElem?_cons_succ, List.getElem?_cons_zero]; rfl)
      case tkq2 => exact fun _ _ _ h => h
      case tky2 => exact Or.inl ⟨by rfl, by intro wSw hSw; (try dsimp only at hSw); go_simp; try with_reducible rfl⟩
      try simp only [Act.put, List.setIfInBounds_toArray, List.set_cons_zero, List.set_cons_succ]
      refine wpAnyH_take (i := 2) (oi := ?tko3) (v := ?tkv3) ?tkh3 (by kernel_rfl) (by kernel_rfl) (by kernel_rfl) ?tkq3 ?tky3 hHeld ?tkr3
      case tkh3 => (simp only [List.getElem?_toArray, List.getElem?_cons_succ, List.getElem?_cons_zero]; rfl)
      case tkq3 => exact fun _ _ _ h => h
      case tky3 => exact Or.inl ⟨by rfl, by intro wSw hSw; (try dsimp only at hSw); go_simp; try with_reducible rfl⟩
      try simp only [Act.put, List.setIfInBounds_toArray, List.set_cons_zero, List.set_cons_succ]
      refine wpAnyH_take (i := 3) (oi := ?tko4) (v := ?tkv4) ?tkh4 (by kernel_rfl) (by kernel_rfl) (by kernel_rfl) ?tkq4 ?tky4 hHeld ?tkr4
      case tkh4 => (simp only [List.getElem?_toArray, List.getElem?_cons_succ, List.getElem?_cons_zero]; rfl)
      case tkq4 => exact fun _ _ _ h => h
      case tky4 => exact Or.inl ⟨by rfl, by intro wSw hSw; (try dsimp only at hSw); go_simp; try with_reducible rfl⟩
      try simp only [Act.put, List.setIfInBounds_toArray, List.set_cons_zero, List.set_cons_succ]
      refine wpAnyH_ready (rs := [4]) (by kernel_rfl) (by simp) ?_
      refine AllReadyH.cons (o := ?tko5) ?tkh5 (fun Kt5 hKt5 => ?_) AllReadyH.nil
      case tkh5 => (simp only [List.getElem?_toArray, List.getElem?_cons_succ, List.getElem?_cons_zero]; rfl)
      go_simp
      (go_at_call 16; refine (PM.out _ ((Below.refl _ _).drew)).mono ?_; rintro e y1 ⟨rfl, hb1⟩; have hB1 := undrew1 hb1)
      refine hKt5.out _ _ ?_ (fun hHt5 => ?_)
      · (exact HS.out _ hB1)
      clear hKt5 Kt5 hHeld
      have hHeld := hHt5
      clear hHt5
      try simp only [Act.put, List.setIfInBounds_toArray, List.set_cons_zero, List.set_cons_succ]
      refine wpAnyH_take (i := 5) (oi := ?tko6) (v := ?tkv6) ?tkh6 (by kernel_rfl) (by kernel_rfl) (by kernel_rfl) ?tkq6 ?tky6 hHeld ?tkr6
      case tkh6 => (simp only [List.getElem?_toArray, List.getElem?_cons_succ, List.getElem?_cons_zero]; rfl)
      case tkq6 => exact fun _ _ _ h => h
      case tky6 => exact Or.inl ⟨by rfl, by intro wSw hSw; (try dsimp only at hSw); go_simp; try with_reducible rfl⟩
      try simp only [Act.put, List.setIfInBounds_toArray, List.set_cons_zero, List.set_cons_succ]
      refine wpAnyH_take (i := 6) (oi := ?tko7) (v := ?tkv7) ?tkh7 (by kernel_rfl) (by kernel_rfl) (by kernel_rfl) ?tkq7 ?tky7 hHeld ?tkr7
      case tkh7 => (simp only [List.getElem?_toArray, List.getElem?_cons_succ, List.getElem?_cons_zero]; rfl)
      case tkq7 => exact fun _ _ _ h => h
      case tky7 => exact Or.inl ⟨by rfl, by intro wSw hSw; (try dsimp only at hSw); go_simp; try with_reducible rfl⟩
      try simp only [Act.put, List.setIfInBounds_toArray, List.set_cons_zero, List.set_cons_succ]
      refine wpAnyH_take (i := 7) (oi := ?tko8) (v := ?tkv8) ?tkh8 (by kernel_rfl) (by kernel_rfl) (by kernel_rfl) ?tkq8 ?tky8 hHeld ?tkr8
      case tkh8 => (simp only [List.getElem?_toArray, List.getElem?_cons_succ, List.getElem?_cons_zero]; rfl)
      case tkq8 => exact fun _ _ _ h => h
      case tky8 => exact Or.inl ⟨by rfl, by intro wSw hSw; (try dsimp only at hSw); go_simp; try with_reducible rfl⟩
      try simp only [Act.put, List.setIfInBounds_toArray, List.set_cons_zero, List.set_cons_succ]
      refine wpAnyH_take (i := 8) (oi := ?tko9) (v := ?tkv9) ?tkh9 (by kernel_rfl) (by kernel_rfl) (by kernel_rfl) ?tkq9 ?tky9 hHeld ?tkr9
      case tkh9 => (simp only [List.getElem?_toArray, List.getElem?_cons_succ, List.getElem?_cons_zero]; rfl)
      case tkq9 => exact fun _ _ _ h => h
      case tky9 => exact Or.inl ⟨by rfl, by intro wSw hSw; (try dsimp only at hSw); go_simp; try with_reducible rfl⟩
      try simp only [Act.put, List.setIfInBounds_toArray, List.set_cons_zero, List.set_cons_succ]
      refine wpAnyH_take (i := 9) (oi := ?tko10) (v := ?tkv10) ?tkh10 (by kernel_rfl) (by kernel_rfl) (by kernel_rfl) ?tkq10 ?tky10 hHeld ?tkr10
      case tkh10 => (simp only [List.getElem?_toArray, List.getElem?_cons_succ, List.getElem?_cons_zero]; rfl)
      case tkq10 => exact fun _ _ _ h => h
      case tky10 => exact Or.inl ⟨by rfl, by intro wSw hSw; (try dsimp only at hSw); go_simp; try with_reducible rfl⟩
      try simp only [Act.put, List.setIfInBounds_toArray, List.set_cons_zero, List.set_cons_succ]
      refine wpAnyH_ready (rs := [10]) (by kernel_rfl) (by simp) ?_
      refine AllReadyH.cons (o := ?tko11) ?tkh11 (fun Kt11 hKt11 => ?_) AllReadyH.nil
      case tkh11 => (simp only [List.getElem?_toArray, List.getElem?_cons_succ, List.getElem?_cons_zero]; rfl)
      go_simp
      (go_at_call 24; refine (PF1.out _ hB1).mono ?_; rintro e y2 ⟨rfl, hb2⟩; have hB2 := hB1.trans (hb2.mono hB1.size))
      refine hKt11.out _ _ ?_ (fun hHt11 => ?_)
      · (exact HS.out _ hB2)
      clear hKt11 Kt11 hHeld
      have hHeld := hHt11
      clear hHt11
      try simp only [Act.put, List.setIfInBounds_toArray, List.set_cons_zero, List.set_cons_succ]
      refine wpAnyH_take (i := 11) (oi := ?tko12) (v := ?tkv12) ?tkh12 (by kernel_rfl) (by kernel_rfl) (by kernel_rfl) ?tkq12 ?tky12 hHeld ?tkr12
      case tkh12 => (simp only [List.getElem?_toArray, List.getElem?_cons_succ, List.getElem?_cons_zero]; rfl)
      case tkq12 => exact fun _ _ _ h => h
      case tky12 => exact Or.inl ⟨by rfl, by intro wSw hSw; (try dsimp only at hSw); go_simp; try with_reducible rfl⟩
      try simp only [Act.put, List.setIfInBounds_toArray, List.set_cons_zero, List.set_cons_succ]
      refine wpAnyH_take (i := 12) (oi := ?tko13) (v := ?tkv13) ?tkh13 (by kernel_rfl) (by kernel_rfl) (by kernel_rfl) ?tkq13 ?tky13 hHeld ?tkr13
      case tkh13 => (simp only [List.getElem?_toArray, List.getElem?_cons_succ, List.getElem?_cons_zero]; rfl)
      case tkq13 => exact fun _ _ _ h => h
      case tky13 => exact Or.inl ⟨by rfl, by intro wSw hSw; (try dsimp only at hSw); go_simp; try with_reducible rfl⟩
      try simp only [Act.put, List.setIfInBounds_toArray, List.set_cons_zero, List.set_cons_succ]
      refine wpAnyH_take (i := 13) (oi := ?tko14) (v := ?tkv14) ?tkh14 (by kernel_rfl) (by kernel_rfl) (by kernel_rfl) ?tkq14 ?tky14 hHeld ?tkr14
      case tkh14 => (simp only [List.getElem?_toArray, List.getElem?_cons_succ, List.getElem?_cons_zero]; rfl)
      case tkq14 => exact fun _ _ _ h => h
      case tky14 => exact Or.inl ⟨by rfl, by intro wSw hSw; (try dsimp only at hSw); go_simp; try with_reducible rfl⟩
      try simp only [Act.put, List.setIfInBounds_toArray, List.set_cons_zero, List.set_cons_succ]
      refine wpAnyH_take (i := 14) (oi := ?tko15) (v := ?tkv15) ?tkh15 (by kernel_rfl) (by kernel_rfl) (by kernel_rfl) ?tkq15 ?tky15 hHeld ?tkr15
      case tkh15 => (simp only [List.getElem?_toArray, List.getElem?_cons_succ, List.getElem?_cons_zero]; rfl)
      case tkq15 => exact fun _ _ _ h => h
      case tky15 => exact Or.inl ⟨by rfl, by intro wSw hSw; (try dsimp only at hSw); go_simp; try with_reducible rfl⟩
      try simp only [Act.put, List.setIfInBounds_toArray, List.set_cons_zero, List.set_cons_succ]
      refine wpAnyH_take (i := 15) (oi := ?tko16) (v := ?tkv16) ?tkh16 (by kernel_rfl) (by kernel_rfl) (by kernel_rfl) ?tkq16 ?tky16 hHeld ?tkr16
      case tkh16 => (simp only [List.getElem?_toArray, List.getElem?_cons_succ, List.getElem?_cons_zero]; rfl)
      case tkq16 => exact fun _ _ _ h => h
      case tky16 => exact Or.inl ⟨by rfl, by intro wSw hSw; (try dsimp only at hSw); go_simp; try with_reducible rfl⟩
      try simp only [Act.put, List.setIfInBounds_toArray, List.set_cons_zero, List.set_cons_succ]
      refine wpAnyH_ready (rs := [16]) (by kernel_rfl) (by simp) ?_
      refine AllReadyH.cons (o := ?tko17) ?tkh17 (fun Kt17 hKt17 => ?_) AllReadyH.nil
      case tkh17 => (simp only [List.getElem?_toArray, List.getElem?_cons_succ, List.getElem?_cons_zero]; rfl)
      go_simp
      (go_at_call 24; refine (PF2.out _ hB2).mono ?_; rintro e y3 ⟨rfl, hb3⟩; have hB3 := hB2.trans (hb3.mono hB2.size))
      refine hKt17.out _ _ ?_ (fun hHt17 => ?_)
      · (exact HS.out _ hB3)
      clear hKt17 Kt17 hHeld
      have hHeld := hHt17
      clear hHt17
      try simp only [Act.put, List.setIfInBounds_toArray, List.set_cons_zero, List.set_cons_succ]
      refine wpAnyH_take (i := 17) (oi := ?tko18) (v := ?tkv18) ?tkh18 (by kernel_rfl) (by kernel_rfl) (by kernel_rfl) ?tkq18 ?tky18 hHeld ?tkr18
      case tkh18 => (simp only [List.getElem?_toArray, List.getElem?_cons_succ, List.getElem?_cons_zero]; rfl)
      case tkq18 => exact fun _ _ _ h => h
      case tky18 => exact Or.inl ⟨by rfl, by intro wSw hSw; (try dsimp only at hSw); go_simp; try with_reducible rfl⟩
      try simp only [Act.put, List.setIfInBounds_toArray, List.set_cons_zero, List.set_cons_succ]
      refine wpAnyH_take (i := 18) (oi := ?tko19) (v := ?tkv19) ?tkh19 (by kernel_rfl) (by kernel_rfl) (by kernel_rfl) ?tkq19 ?tky19 hHeld ?tkr19
      case tkh19 => (simp only [List.getElem?_toArray, List.getElem?_cons_succ, List.getElem?_cons_zero]; rfl)
      case tkq19 => exact fun _ _ _ h => h
      case tky19 => exact Or.inl ⟨by rfl, by intro wSw hSw; (try dsimp only at hSw); go_simp; try with_reducible rfl⟩
      try simp only [Act.put, List.setIfInBounds_toArray, List.set_cons_zero, List.set_cons_succ]
      refine wpAnyH_take (i := 19) (oi := ?tko20) (v := ?tkv20) ?tkh20 (by kernel_rfl) (by kernel_rfl) (by kernel_rfl) ?tkq20 ?tky20 hHeld ?tkr20
      case tkh20 => (simp only [List.getElem?_toArray, List.getElem?_cons_succ, List.getElem?_cons_zero]; rfl)
      case tkq20 => exact fun _ _ _ h => h
      case tky20 => exact Or.inl ⟨by rfl, by intro wSw hSw; (try dsimp only at hSw); go_simp; try with_reducible rfl⟩
      try simp only [Act.put, List.setIfInBounds_toArray, List.set_cons_zero, List.set_cons_succ]
      refine wpAnyH_take (i := 20) (oi := ?tko21) (v := ?tkv21) ?tkh21 (by kernel_rfl) (by kernel_rfl) (by kernel_rfl) ?tkq21 ?tky21 hHeld ?tkr21
      case tkh21 => (simp only [List.getElem?_toArray, List.getElem?_cons_succ, List.getElem?_cons_zero]; rfl)
      case tkq21 => exact fun _ _ _ h => h
      case tky21 => exact Or.inl ⟨by rfl, by intro wSw hSw; (try dsimp only at hSw); go_simp; try with_reducible rfl⟩
      try simp only [Act.put, List.setIfInBounds_toArray, List.set_cons_zero, List.set_cons_succ]
      refine wpAnyH_ready (rs := [21]) (by kernel_rfl) (by simp) ?_
      refine AllReadyH.cons (o := ?tko22) ?tkh22 (fun Kt22 hKt22 => ?_) AllReadyH.nil
      case tkh22 => (simp only [List.getElem?_toArray, List.getElem?_cons_succ, List.getElem?_cons_zero]; rfl)
      go_simp
      (go_at_call 24; refine (PF3.out _ hB3).mono ?_; rintro e y4 ⟨rfl, hb4⟩; have hB4 := hB3.trans (hb4.mono hB3.size))
      refine hKt22.out _ _ ?_ (fun hHt22 => ?_)
      · (exact HS.out _ hB4)
      clear hKt22 Kt22 hHeld
      have hHeld := hHt22
      clear hHt22
      try simp only [Act.put, List.setIfInBounds_toArray, List.set_cons_zero, List.set_cons_succ]
      refine wpAnyH_take (i := 22) (oi := ?tko23) (v := ?tkv23) ?tkh23 (by kernel_rfl) (by kernel_rfl) (by kernel_rfl) ?tkq23 ?tky23 hHeld ?tkr23
      case tkh23 => (simp only [List.getElem?_toArray, List.getElem?_cons_succ, List.getElem?_cons_zero]; rfl)
      case tkq23 => exact fun _ _ _ h => h
      case tky23 => exact Or.inl ⟨by rfl, by intro wSw hSw; (try dsimp only at hSw); go_simp; try with_reducible rfl⟩
      try simp only [Act.put, List.setIfInBounds_toArray, List.set_cons_zero, List.set_cons_succ]
      refine wpAnyH_take (i := 23) (oi := ?tko24) (v := ?tkv24) ?tkh24 (by kernel_rfl) (by kernel_rfl) (by kernel_rfl) ?tkq24 ?tky24 hHeld ?tkr24
      case tkh24 => (simp only [List.getElem?_toArray, List.getElem?_cons_succ, List.getElem?_cons_zero]; rfl)
      case tkq24 => exact fun _ _ _ h => h
      case tky24 => exact Or.inl ⟨by rfl, by intro wSw hSw; (try dsimp only at hSw); go_simp; try with_reducible rfl⟩
      try simp only [Act.put, List.setIfInBounds_toArray, List.set_cons_zero, List.set_cons_succ]
      refine wpAnyH_take (i := 24) (oi := ?tko25) (v := ?tkv25) ?tkh25 (by kernel_rfl) (by kernel_rfl) (by kernel_rfl) ?tkq25 ?tky25 hHeld ?tkr25
      case tkh25 => (simp only [List.getElem?_toArray, List.getElem?_cons_succ, List.getElem?_cons_zero]; rfl)
      case tkq25 => exact fun _ _ _ h => h
      case tky25 => exact Or.inl ⟨by rfl, by intro wSw hSw; (try dsimp only at hSw); go_simp; try with_reducible rfl⟩
      try simp only [Act.put, List.setIfInBounds_toArray, List.set_cons_zero, List.set_cons_succ]
      refine wpAnyH_take (i := 25) (oi := ?tko26) (v := ?tkv26) ?tkh26 (by kernel_rfl) (by kernel_rfl) (by kernel_rfl) ?tkq26 ?tky26 hHeld ?tkr26
      case tkh26 => (simp only [List.getElem?_toArray, List.getElem?_cons_succ, List.getElem?_cons_zero]; rfl)
      case tkq26 => exact fun _ _ _ h => h
      case tky26 => exact Or.inl ⟨by rfl, by intro wSw hSw; (try dsimp only at hSw); go_simp; try with_reducible rfl⟩
      try simp only [Act.put, List.setIfInBounds_toArray, List.set_cons_zero, List.set_cons_succ]
      refine wpAnyH_take (i := 26) (oi := ?tko27) (v := ?tkv27) ?tkh27 (by kernel_rfl) (by kernel_rfl) (by kernel_rfl) ?tkq27 ?tky27 hHeld ?tkr27
      case tkh27 => (simp only [List.getElem?_toArray, List.getElem?_cons_succ, List.getElem?_cons_zero]; rfl)
      case tkq27 => exact fun _ _ _ h => h
      case tky27 => exact Or.inl ⟨by rfl, by intro wSw hSw; (try dsimp only at hSw); go_simp; try with_reducible rfl⟩
      try simp only [Act.put, List.setIfInBounds_toArray, List.set_cons_zero, List.set_cons_succ]
      refine wpAnyH_take (i := 27) (oi := ?tko28) (v := ?tkv28) ?tkh28 (by kernel_rfl) (by kernel_rfl) (by kernel_rfl) ?tkq28 ?tky28 hHeld ?tkr28
      case tkh28 => (simp only [List.getElem?_toArray, List.getElem?_cons_succ, List.getElem?_cons_zero]; rfl)
      case tkq28 => exact fun _ _ _ h => h
      case tky28 => exact Or.inl ⟨by rfl, by intro wSw hSw; (try dsimp only at hSw); go_simp; try with_reducible rfl⟩
      try simp only [Act.put, List.setIfInBounds_toArray, List.set_cons_zero, List.set_cons_succ]
      refine wpAnyH_take (i := 28) (oi := ?tko29) (v := ?tkv29) ?tkh29 (by kernel_rfl) (by kernel_rfl) (by kernel_rfl) ?tkq29 ?tky29 hHeld ?tkr29
      case tkh29 => (simp only [List.getElem?_toArray, List.getElem?_cons_succ, List.getElem?_cons_zero]; rfl)
      case tkq29 => exact fun _ _ _ h => h
      case tky29 => exact Or.inl ⟨by rfl, by intro wSw hSw; (try dsimp only at hSw); go_simp; try with_reducible rfl⟩
      try simp only [Act.put, List.setIfInBounds_toArray, List.set_cons_zero, List.set_cons_succ]
      refine wpAnyH_ready (rs := [29]) (by kernel_rfl) (by simp) ?_
      refine AllReadyH.cons (o := ?tko30) ?tkh30 (fun Kt30 hKt30 => ?_) AllReadyH.nil
      case tkh30 => (simp only [List.getElem?_toArray, List.getElem?_cons_succ, List.getElem?_cons_zero]; rfl)
      go_simp
      (go_at_call 17; refine (PC.out _ hB4).mono ?_; rintro e y5 ⟨N4, n4, c4, E4, m4, d4, rfl, hT4, hb5⟩; have hB5 := hB4.trans (hb5.mono hB4.size))
      refine hKt30.out _ _ ?_ (fun hHt30 => ?_)
      · (exact HS.out _ hB5)
      clear hKt30 Kt30 hHeld
      have hHeld := hHt30
      clear hHt30
      try simp only [Act.put, List.setIfInBounds_toArray, List.set_cons_zero, List.set_cons_succ]
      refine wpAnyH_ready (rs := [30]) (by kernel_rfl) (by simp) ?_
      refine AllReadyH.cons (o := ?tko31) ?tkh31 (fun Kt31 hKt31 => ?_) AllReadyH.nil
      case tkh31 => (simp only [List.getElem?_toArray, List.getElem?_cons_succ, List.getElem?_cons_zero]; rfl)
      go_simp
      (go_at_call 23; refine (SM.out _ _ _ _ _ _ _ _ _ _ _ _ _ (HV2.out.below hB5) hT4).mono ?_; rintro e y6 ⟨rfl, hb6⟩; have hB6 := hB5.trans (hb6.mono hB5.size))
      refine hKt31.out _ _ ?_ (fun hHt31 => ?_)
      · (exact HS.out _ hB6)
      clear hKt31 Kt31 hHeld
      have hHeld := hHt31
      clear hHt31
      try simp only [Act.put, List.setIfInBounds_toArray, List.set_cons_zero, List.set_cons_succ]
      refine wpAnyH_take (i := 31) (oi := ?tko32) (v := ?tkv32) ?tkh32 (by kernel_rfl) (by kernel_rfl) (by kernel_rfl) ?tkq32 ?tky32 hHeld ?tkr32
      case tkh32 => (simp only [List.getElem?_toArray, List.getElem?_cons_succ, List.getElem?_cons_zero]; rfl)
      case tkq32 => exact fun _ _ _ h => h
      case tky32 => exact Or.inl ⟨by rfl, by intro wSw hSw; (try dsimp only at hSw); go_simp; try with_reducible rfl⟩
      try simp only [Act.put, List.setIfInBounds_toArray, List.set_cons_zero, List.set_cons_succ]
      refine wpAnyH_take (i := 32) (oi := ?tko33) (v := ?tkv33) ?tkh33 (by kernel_rfl) (by kernel_rfl) (by kernel_rfl) ?tkq33 ?tky33 hHeld ?tkr33
      case tkh33 => (simp only [List.getElem?_toArray, List.getElem?_cons_succ, List.getElem?_cons_zero]; rfl)
      case tkq33 => exact fun _ _ _ h => h
      case tky33 => exact Or.inl ⟨by rfl, by intro wSw hSw; (try dsimp only at hSw); go_simp; try with_reducible rfl⟩
      try simp only [Act.put, List.setIfInBounds_toArray, List.set_cons_zero, List.set_cons_succ]
      refine wpAnyH_done (by kernel_rfl) ?_ _
      have hx := HS.out _ hB6
      obtain ⟨y50, y51, y60, y61, y90, y91, -⟩ := hx
      have HY6 := Lib.hid hB6
      have hbx := HVB.out.later hB6
      have f60 := hbx.1.fz 0 rfl
      have f61 := hbx.1.fz 1 rfl
      have HBX := Lib.hid hbx
      clear hbx hB1 hB2 hB3 hB4 hB5 hB6 hb1 hb2 hb3 hb4 hb5 hb6 hT4 hHeld hadd64
      go_wp2
      go_roundw
      case rel => exact ⟨k + 1, N2, n2, c2, E2, m2, d2, by omega, by go_num, HBX.out.set, (HV2.out.below HY6.out).other HBX.out (fun p hp => set2_cell _ g6 _ _ p hp), (HVZ.out.trans (HY6.out.mono (Nat.le_of_lt HGV.out))).setCell (p := ⟨g6, 0, none⟩) (Nat.le_refl _) _ |>.setCell (p := ⟨g6, 1, none⟩) (Nat.le_refl _) _⟩
      case measure => simp [intOf]; omega
    · have hge : decide ((k : Int) < (ue : Int)) = false := by simp; omega
      have hall : upT M k = M := up_all M (by rw [HL.out]; omega)
      have hall2 : upT M (ue + 1) = M := up_all M (by rw [HL.out]; omega)
      rw [hall] at HT1
      have PC := fun W (hb : Below wr.heap.size wr W) => landCut NU un uc EU ue uk M ((ue : Int) + 1) W (HTM.out.below hb) HSML.out ⟨by omega, by omega⟩
      rw [up_cut HMAY.out, show ((ue : Int) + 1).toNat = ue + 1 by omega, hall2] at PC
      have PC := Lib.hid PC
      have SM := Lib.hid (fun (N1 : Option Addr) (a1 b1 : Nat) (E1 : Option Addr) (c1 d1 : Nat) (N2 : Option Addr) (a2 b2 : Nat) (E2 : Option Addr) (c2 d2 : Nat) W (h1 : TrOk Any W N1 a1 b1 E1 c1 d1 M) (h2 : TrOk Any W N2 a2 b2 E2 c2 d2 M) => by
        have := refSameTrace N1 a1 b1 E1 c1 d1 N2 a2 b2 E2 c2 d2 M M W h1 h2
        rw [decide_eq_true rfl] at this
        exact this)
      have HS := Lib.hid (show ∀ W, Below wr.heap.size wr W → W.cell? ⟨g5, 0, none⟩ = some (.slice NU un uc) ∧ W.cell? ⟨g5, 1, none⟩ = some (.slice EU ue uk) ∧ W.cell? ⟨g6, 0, none⟩ = some (.slice N1 n1 c1) ∧ W.cell? ⟨g6, 1, none⟩ = some (.slice E1 m1 d1) ∧ Below wr.heap.size wr W from
        fun W hb => ⟨below_cell hb v50, below_cell hb v51, below_cell hb v60, below_cell hb v61, hb⟩)
      have hadd64 : IntKind.i64.wrap ((ue : Int) + 1) = (ue : Int) + 1 := IntWalk.i64_in _ (by omega)
      clear hall hall2 v50 v51 v60 v61
      go_wp2_with fail
      refine wp_region_held_drew (S := (fun W => W.cell? ⟨g5, 0, none⟩ = some (.slice NU un uc) ∧ W.cell? ⟨g5, 1, none⟩ = some (.slice EU ue uk) ∧ W.cell? ⟨g6, 0, none⟩ = some (.slice N1 n1 c1) ∧ W.cell? ⟨g6, 1, none⟩ = some (.slice E1 m1 d1) ∧ Below wr.heap.size wr W)) (by kernel_rfl) (HS.out _ (Below.refl _ _).drew) (fun hHeld => ?_)
      refine wpAnyH_take (i := 0) (oi := ?tko34) (v := ?tkv34) ?tkh34 (by kernel_rfl) (by kernel_rfl) (by kernel_rfl) ?tkq34 ?tky34 hHeld ?tkr34
      case tkh34 => (simp only [List.getElem?_toArray, List.getElem?_cons_zero]; rfl)
      case tkq34 => exact fun _ _ _ h => h
      case tky34 => exact Or.inl ⟨by rfl, by intro wSw hSw; (try dsimp only at hSw); go_simp; try with_reducible rfl⟩
      try simp only [Act.put, List.setIfInBounds_toArray, List.set_cons_zero, List.set_cons_succ]
      refine wpAnyH_take (i := 1) (oi := ?tko35) (v := ?tkv35) ?tkh35 (by kernel_rfl) (by kernel_rfl) (by kernel_rfl) ?tkq35 ?tky35 hHeld ?tkr35
      case tkh35 => (simp only [List.getElem?_toArray, List.getElem?_cons_succ, List.getElem?_cons_zero]; rfl)
      case tkq35 => exact fun _ _ _ h => h
      case tky35 => exact Or.inl ⟨by rfl, by intro wSw hSw; (try dsimp only at hSw); go_simp; try with_reducible rfl⟩
      try simp only [Act.put, List.setIfInBounds_toArray, List.set_cons_zero, List.set_cons_succ]
      refine wpAnyH_ready (rs := [2]) (by kernel_rfl) (by simp) ?_
      refine AllReadyH.cons (o := ?tko36) ?tkh36 (fun Kt36 hKt36 => ?_) AllReadyH.nil
      case tkh36 => (simp only [List.getElem?_toArray, List.getElem?_cons_succ, List.getElem?_cons_zero]; rfl)
      go_simp
      (go_at_call 23; refine (SM.out _ _ _ _ _ _ _ _ _ _ _ _ _ (HT1.out.below (Below.refl _ _).drew) (HTM.out.below (Below.refl _ _).drew)).mono ?_; rintro e y1 ⟨rfl, hb1⟩; have hB1 := undrew1 hb1)
      refine hKt36.out _ _ ?_ (fun hHt36 => ?_)
      · (exact HS.out _ hB1)
      clear hKt36 Kt36 hHeld
      have hHeld := hHt36
      clear hHt36
      try simp only [Act.put, List.setIfInBounds_toArray, List.set_cons_zero, List.set_cons_succ]
      refine wpAnyH_take (i := 3) (oi := ?tko37) (v := ?tkv37) ?tkh37 (by kernel_rfl) (by kernel_rfl) (by kernel_rfl) ?tkq37 ?tky37 hHeld ?tkr37
      case tkh37 => (simp only [List.getElem?_toArray, List.getElem?_cons_succ, List.getElem?_cons_zero]; rfl)
      case tkq37 => exact fun _ _ _ h => h
      case tky37 => exact Or.inl ⟨by rfl, by intro wSw hSw; (try dsimp only at hSw); go_simp; try with_reducible rfl⟩
      try simp only [Act.put, List.setIfInBounds_toArray, List.set_cons_zero, List.set_cons_succ]
      refine wpAnyH_take (i := 4) (oi := ?tko38) (v := ?tkv38) ?tkh38 (by kernel_rfl) (by kernel_rfl) (by kernel_rfl) ?tkq38 ?tky38 hHeld ?tkr38
      case tkh38 => (simp only [List.getElem?_toArray, List.getElem?_cons_succ, List.getElem?_cons_zero]; rfl)
      case tkq38 => exact fun _ _ _ h => h
      case tky38 => exact Or.inl ⟨by rfl, by intro wSw hSw; (try dsimp only at hSw); go_simp; try with_reducible rfl⟩
      try simp only [Act.put, List.setIfInBounds_toArray, List.set_cons_zero, List.set_cons_succ]
      refine wpAnyH_take (i := 5) (oi := ?tko39) (v := ?tkv39) ?tkh39 (by kernel_rfl) (by kernel_rfl) (by kernel_rfl) ?tkq39 ?tky39 hHeld ?tkr39
      case tkh39 => (simp only [List.getElem?_toArray, List.getElem?_cons_succ, List.getElem?_cons_zero]; rfl)
      case tkq39 => exact fun _ _ _ h => h
      case tky39 => exact Or.inl ⟨by rfl, by intro wSw hSw; (try dsimp only at hSw); go_simp; try with_reducible rfl⟩
      try simp only [Act.put, List.setIfInBounds_toArray, List.set_cons_zero, List.set_cons_succ]
      refine wpAnyH_take (i := 6) (oi := ?tko40) (v := ?tkv40) ?tkh40 (by kernel_rfl) (by kernel_rfl) (by kernel_rfl) ?tkq40 ?tky40 hHeld ?tkr40
      case tkh40 => (simp only [List.getElem?_toArray, List.getElem?_cons_succ, List.getElem?_cons_zero]; rfl)
      case tkq40 => exact fun _ _ _ h => h
      case tky40 => exact Or.inl ⟨by rfl, by intro wSw hSw; (try dsimp only at hSw); go_simp; try with_reducible rfl⟩
      try simp only [Act.put, List.setIfInBounds_toArray, List.set_cons_zero, List.set_cons_succ]
      refine wpAnyH_take (i := 7) (oi := ?tko41) (v := ?tkv41) ?tkh41 (by kernel_rfl) (by kernel_rfl) (by kernel_rfl) ?tkq41 ?tky41 hHeld ?tkr41
      case tkh41 => (simp only [List.getElem?_toArray, List.getElem?_cons_succ, List.getElem?_cons_zero]; rfl)
      case tkq41 => exact fun _ _ _ h => h
      case tky41 => exact Or.inl ⟨by rfl, by intro wSw hSw; (try dsimp only at hSw); go_simp; try with_reducible rfl⟩
      try simp only [Act.put, List.setIfInBounds_toArray, List.set_cons_zero, List.set_cons_succ]
      refine wpAnyH_take (i := 8) (oi := ?tko42) (v := ?tkv42) ?tkh42 (by kernel_rfl) (by kernel_rfl) (by kernel_rfl) ?tkq42 ?tky42 hHeld ?tkr42
      case tkh42 => (simp only [List.getElem?_toArray, List.getElem?_cons_succ, List.getElem?_cons_zero]; rfl)
      case tkq42 => exact fun _ _ _ h => h
      case tky42 => exact Or.inl ⟨by rfl, by intro wSw hSw; (try dsimp only at hSw); go_simp; try with_reducible rfl⟩
      try simp only [Act.put, List.setIfInBounds_toArray, List.set_cons_zero, List.set_cons_succ]
      refine wpAnyH_take (i := 10) (oi := ?tko43) (v := ?tkv43) ?tkh43 (by kernel_rfl) (by kernel_rfl) (by kernel_rfl) ?tkq43 ?tky43 hHeld ?tkr43
      case tkh43 => (simp only [List.getElem?_toArray, List.getElem?_cons_succ, List.getElem?_cons_zero]; rfl)
      case tkq43 => exact fun _ _ _ h => h
      case tky43 => exact Or.inl ⟨by rfl, by intro wSw hSw; (try dsimp only at hSw); go_simp; try with_reducible rfl⟩
      try simp only [Act.put, List.setIfInBounds_toArray, List.set_cons_zero, List.set_cons_succ]
      refine wpAnyH_ready (rs := [9]) (by kernel_rfl) (by simp) ?_
      refine AllReadyH.cons (o := ?tko44) ?tkh44 (fun Kt44 hKt44 => ?_) AllReadyH.nil
      case tkh44 => (simp only [List.getElem?_toArray, List.getElem?_cons_succ, List.getElem?_cons_zero]; rfl)
      go_simp
      (go_at_call 17; refine (PC.out _ hB1).mono ?_; rintro e y2 ⟨N4, n4, c4, E4, m4, d4, rfl, hT4, hb2⟩; have hB2 := hB1.trans (hb2.mono hB1.size))
      refine hKt44.out _ _ ?_ (fun hHt44 => ?_)
      · (exact HS.out _ hB2)
      clear hKt44 Kt44 hHeld
      have hHeld := hHt44
      clear hHt44
      try simp only [Act.put, List.setIfInBounds_toArray, List.set_cons_zero, List.set_cons_succ]
      refine wpAnyH_ready (rs := [11]) (by kernel_rfl) (by simp) ?_
      refine AllReadyH.cons (o := ?tko45) ?tkh45 (fun Kt45 hKt45 => ?_) AllReadyH.nil
      case tkh45 => (simp only [List.getElem?_toArray, List.getElem?_cons_succ, List.getElem?_cons_zero]; rfl)
      go_simp
      (go_at_call 23; refine (SM.out _ _ _ _ _ _ _ _ _ _ _ _ _ hT4 (HTM.out.below hB2)).mono ?_; rintro e y3 ⟨rfl, hb3⟩; have hB3 := hB2.trans (hb3.mono hB2.size))
      refine hKt45.out _ _ ?_ (fun hHt45 => ?_)
      · (exact HS.out _ hB3)
      clear hKt45 Kt45 hHeld
      have hHeld := hHt45
      clear hHt45
      try simp only [Act.put, List.setIfInBounds_toArray, List.set_cons_zero, List.set_cons_succ]
      refine wpAnyH_take (i := 12) (oi := ?tko46) (v := ?tkv46) ?tkh46 (by kernel_rfl) (by kernel_rfl) (by kernel_rfl) ?tkq46 ?tky46 hHeld ?tkr46
      case tkh46 => (simp only [List.getElem?_toArray, List.getElem?_cons_succ, List.getElem?_cons_zero]; rfl)
      case tkq46 => exact fun _ _ _ h => h
      case tky46 => exact Or.inl ⟨by rfl, by intro wSw hSw; (try dsimp only at hSw); go_simp; try with_reducible rfl⟩
      try simp only [Act.put, List.setIfInBounds_toArray, List.set_cons_zero, List.set_cons_succ]
      refine wpAnyH_take (i := 13) (oi := ?tko47) (v := ?tkv47) ?tkh47 (by kernel_rfl) (by kernel_rfl) (by kernel_rfl) ?tkq47 ?tky47 hHeld ?tkr47
      case tkh47 => (simp only [List.getElem?_toArray, List.getElem?_cons_succ, List.getElem?_cons_zero]; rfl)
      case tkq47 => exact fun _ _ _ h => h
      case tky47 => exact Or.inl ⟨by rfl, by intro wSw hSw; (try dsimp only at hSw); go_simp; try with_reducible rfl⟩
      try simp only [Act.put, List.setIfInBounds_toArray, List.set_cons_zero, List.set_cons_succ]
      refine wpAnyH_ready (rs := [14]) (by kernel_rfl) (by simp) ?_
      refine AllReadyH.cons (o := ?tko48) ?tkh48 (fun Kt48 hKt48 => ?_) AllReadyH.nil
      case tkh48 => (simp only [List.getElem?_toArray, List.getElem?_cons_succ, List.getElem?_cons_zero]; rfl)
      go_simp
      (go_at_call 9; refine (HA.out _).mono ?_; rintro e y4 ⟨rfl, hb4⟩; have hB4 := hB3.trans (hb4.mono hB3.size))
      refine hKt48.out _ _ ?_ (fun hHt48 => ?_)
      · (exact HS.out _ hB4)
      clear hKt48 Kt48 hHeld
      have hHeld := hHt48
      clear hHt48
      try simp only [Act.put, List.setIfInBounds_toArray, List.set_cons_zero, List.set_cons_succ]
      refine wpAnyH_take (i := 15) (oi := ?tko49) (v := ?tkv49) ?tkh49 (by kernel_rfl) (by kernel_rfl) (by kernel_rfl) ?tkq49 ?tky49 hHeld ?tkr49
      case tkh49 => (simp only [List.getElem?_toArray, List.getElem?_cons_succ, List.getElem?_cons_zero]; rfl)
      case tkq49 => exact fun _ _ _ h => h
      case tky49 => exact Or.inl ⟨by rfl, by intro wSw hSw; (try dsimp only at hSw); go_simp; try with_reducible rfl⟩
      try simp only [Act.put, List.setIfInBounds_toArray, List.set_cons_zero, List.set_cons_succ]
      refine wpAnyH_take (i := 16) (oi := ?tko50) (v := ?tkv50) ?tkh50 (by kernel_rfl) (by kernel_rfl) (by kernel_rfl) ?tkq50 ?tky50 hHeld ?tkr50
      case tkh50 => (simp only [List.getElem?_toArray, List.getElem?_cons_succ, List.getElem?_cons_zero]; rfl)
      case tkq50 => exact fun _ _ _ h => h
      case tky50 => exact Or.inl ⟨by rfl, by intro wSw hSw; (try dsimp only at hSw); go_simp; try with_reducible rfl⟩
      try simp only [Act.put, List.setIfInBounds_toArray, List.set_cons_zero, List.set_cons_succ]
      refine wpAnyH_done (by kernel_rfl) ?_ _
      go_wp2
      go_ret
      exact ⟨rfl, DR.out.trans (hB4.mono DR.out.size)⟩
end Go.Proofs.Ytlkfdnbgplkiiaa.Trace
