/-
  The law SatDual (stage 15). By an AI agent. (Written by wip/tools/gendual15.py.)
  The law's variable of the span of what has none: what a row that lists it gives the walks; a world in which it lies as its initialiser lays it. By an AI agent.
-/
import Derived.Test.YtdbgaccnejffpaaGreatDoorGSatDual1
import Derived.Test.YtdbgaccnejffpaaGreatDoorGSatDual44
import Derived.Test.YtdbgaccnejffpaaGreatDoorRows
import Derived.Test.YtdbgaccnejffpaaGreatDoorGSatDual37
import Derived.Deep.DeepHandedRow
import Derived.LaidMore
import Derived.Stop.Joined
import Derived.Lib.LaidTab
namespace Go.Proofs.YtdbgaccnejffpaaGreatDoor.Sat
open Go.RowKit Go.Proofs.YtdbgaccnejffpaaGreatDoor.Ints Go.Proofs.YtdbgaccnejffpaaGreatDoor.Mem Go.Proofs.YtdbgaccnejffpaaGreatDoor.Src Go.Proofs.YtdbgaccnejffpaaGreatDoor.Paths Go.Proofs.YtdbgaccnejffpaaGreatDoor.Late Go.Proofs.YtdbgaccnejffpaaGreatDoor.Trace
theorem smallE : Tree.small64 0 ∧ Tree.small64 (-1) := by unfold Tree.small64; omega
set_option maxHeartbeats 64000000 in
set_option maxRecDepth 100000 in
theorem lawDualS (start : Int) (A : Option Addr) (n c : Nat) (zs : List Int) (B : Option Addr) (m d : Nat) (ys : List Int) (C : Option Addr) (q f : Nat) (xs : List Int) (sp : Int) (w : World) (h0 : 0 ≤ start ∧ start ≤ 18446744073709551615) (hsp : 0 ≤ sp ∧ sp ≤ 65535) (hr : Rd .u16 w A n zs) (hc : n ≤ maxLen) (hr2 : Rd .u16 w B m ys) (hc2 : m ≤ maxLen) (hr3 : Rd .u16 w C q xs) (hc3 : q ≤ maxLen) (hv : NoneV w) :
  Calls Tryz.prog 3 #[.int .u64 start, .slice A n c, .slice B m d, .slice C q f, .int .u16 sp] w fun e w' => e = .returned (.bool true) ∧ Below w.heap.size w w' := by
 have HMK1 := Lib.hid (Trace.lawMake start A n c zs w h0 hr hc)
 have HMK2 := Lib.hid (fun W (hb : Below w.heap.size w W) => Tree.lawMake B m d ys false W (hr2.below hb) hc2)
 have HMK3 := Lib.hid (fun W (hb : Below w.heap.size w W) => Tree.lawMake C q f xs false W (hr3.below hb) hc3)
 obtain ⟨t, hT⟩ : ∃ T, makeM start zs = T := ⟨_, rfl⟩
 obtain ⟨L1, hL1⟩ : ∃ L, Tree.makeL false ys = L := ⟨_, rfl⟩
 obtain ⟨L2, hL2⟩ : ∃ L, Tree.makeL false xs = L := ⟨_, rfl⟩
 have HMT := Lib.hid (show mayT t = true by rw [← hT]; exact make_may zs (fun z hz => (wf_u16 (hr.all z hz)).1))
 have hl60 : t.events.length ≤ 60 := by rw [← hT]; exact (make_small start zs).1
 have HG1 := Lib.hid (show Tree.G true false L1 ∧ L1.length ≤ 100 from by rw [← hL1]; exact Tree.make_ok false ys (fun z hz => wf_u16 (hr2.all z hz)))
 have HG2 := Lib.hid (show Tree.G true false L2 ∧ L2.length ≤ 100 from by rw [← hL2]; exact Tree.make_ok false xs (fun z hz => wf_u16 (hr3.all z hz)))
 rw [hT] at HMK1
 rw [hL1] at HMK2
 rw [hL2] at HMK3
 have HAW := Lib.hid (fun V => awake V)
 have HNV := Lib.hid hv
 obtain ⟨s, hs⟩ : ∃ s, sp % 2700 = s := ⟨_, rfl⟩
 have hs0 : 0 ≤ s ∧ s < 2700 := by
  rw [← hs]
  omega
 obtain ⟨lo, hlo⟩ : ∃ x, Tree.spanLo s = x := ⟨_, rfl⟩
 obtain ⟨hi, hhi⟩ : ∃ x, Tree.spanHi s = x := ⟨_, rfl⟩
 have HSM := Lib.hid (show Ival.mayS lo hi = true ∧ Tree.small64 lo ∧ Tree.small64 hi by rw [← hlo, ← hhi]; exact ⟨span_may s hs0, Tree.span_small s ⟨hs0.1, by omega⟩⟩)
 have HSP := Lib.hid (fun W => Tree.lawSpan s W hs0.1 (by omega))
 rw [hlo, hhi] at HSP
 clear hT hL1 hL2 hr hc hr2 hc2 hr3 hc3 h0 hv hs0 hlo hhi
 go_enter Tryz.func3, Tryz.ntmps3
 go_wp2_with fail
 refine (HMK1.out).mono ?_
 rintro e w1 ⟨NA, nn, nc, EA, ne, ec, rfl, hTU, hb1⟩
 have D1 := Lib.hid hb1
 have HT1 := Lib.hid hTU
 have hne : ne ≤ 60 := by rw [← hTU.elen]; exact hl60
 clear hTU hb1 hl60
 go_wp2_with fail
 refine (HMK2.out _ D1.out).mono ?_
 rintro e w2 ⟨Aa, ca, rfl, hNL, hcL, hcM, hb2⟩
 have D2 := Lib.hid (D1.out.trans (hb2.mono D1.out.size))
 have HT2 := Lib.hid (HT1.out.below hb2)
 have HA2 := Lib.hid (nodes_fl hNL ⟨hcL, hcM⟩ HG1.out.1)
 obtain ⟨na, hna⟩ : ∃ nl, L1.length = nl := ⟨_, rfl⟩
 have hna2 : na ≤ 100 := by rw [← hna]; exact HG1.out.2
 rw [hna] at HA2 ⊢
 clear hNL hcL hcM hb2 hna
 go_wp2_with fail
 refine (HMK3.out _ D2.out).mono ?_
 rintro e w3 ⟨Ab, cb, rfl, hNL, hcL, hcM, hb3⟩
 have D3 := Lib.hid (D2.out.trans (hb3.mono D2.out.size))
 have HT3 := Lib.hid (HT2.out.below hb3)
 have HA3 := Lib.hid (HA2.out.below hb3)
 have HB3 := Lib.hid (nodes_fl hNL ⟨hcL, hcM⟩ HG2.out.1)
 obtain ⟨nb, hnb⟩ : ∃ nl, L2.length = nl := ⟨_, rfl⟩
 have hnb2 : nb ≤ 100 := by rw [← hnb]; exact HG2.out.2
 rw [hnb] at HB3 ⊢
 obtain ⟨gT, hgT⟩ : ∃ g, w3.heap.size = g := ⟨_, rfl⟩
 obtain ⟨X, hX⟩ : ∃ X, w3.alloc (.cells #[.slice NA nn nc, .slice EA ne ec] 28) = X := ⟨_, rfl⟩
 have h3X : Below w3.heap.size w3 X := by rw [← hX]; exact (Below.refl _ _).alloc (Nat.le_refl _) _
 have x0 : X.cell? ⟨gT, 0, none⟩ = some (.slice NA nn nc) := by rw [← hX, ← hgT]; exact box_cell 0 _ rfl
 have x1 : X.cell? ⟨gT, 1, none⟩ = some (.slice EA ne ec) := by rw [← hX, ← hgT]; exact box_cell 1 _ rfl
 have D4 := Lib.hid (D3.out.trans (h3X.mono D3.out.size))
 have HT4 := Lib.hid (HT3.out.below h3X)
 have HA4 := Lib.hid (HA3.out.below h3X)
 have HB4 := Lib.hid (HB3.out.below h3X)
 have HX := Lib.hid hX
 have HGT := Lib.hid hgT
 have HS := Lib.hid hs
 have hm1 : ¬ ((2700 : Int) = 0) := by decide
 clear hNL hcL hcM hb3 hnb hX hgT h3X hs
 go_wp2_with fail
 rw [HX.out, HGT.out, HS.out]
 refine (HSP.out _).mono ?_
 rintro e w4 ⟨rfl, hb4⟩
 obtain ⟨gS, hgS⟩ : ∃ g, w4.heap.size = g := ⟨_, rfl⟩
 obtain ⟨Y, hY⟩ : ∃ Y, w4.alloc (.cells #[.int .i64 lo, .int .i64 hi] 33) = Y := ⟨_, rfl⟩
 obtain ⟨Z, hZ⟩ : ∃ Z, Y.alloc (.cells (kcells 1) 37) = Z := ⟨_, rfl⟩
 obtain ⟨V, hV⟩ : ∃ V, Z.alloc (.cells (kcells 2) 37) = V := ⟨_, rfl⟩
 have h4Y : Below w4.heap.size w4 Y := by rw [← hY]; exact (Below.refl _ _).alloc (Nat.le_refl _) _
 have hYZ : Below Y.heap.size Y Z := by rw [← hZ]; exact (Below.refl _ _).alloc (Nat.le_refl _) _
 have hZV : Below Z.heap.size Z V := by rw [← hV]; exact (Below.refl _ _).alloc (Nat.le_refl _) _
 have hYV : Below Y.heap.size Y V := hYZ.trans (hZV.mono hYZ.size)
 have hXY : Below X.heap.size X Y := hb4.trans (h4Y.mono hb4.size)
 have hXV : Below X.heap.size X V := hXY.trans (hYV.mono hXY.size)
 have D0 := Lib.hid (show Du V gT gS NA nn nc EA ne ec t lo hi from ⟨HT4.out.below hXV, below_cell hXV x0, below_cell hXV x1,
  below_cell hYV (by rw [← hY, ← hgS]; exact box_cell 0 _ rfl), below_cell hYV (by rw [← hY, ← hgS]; exact box_cell 1 _ rfl), (HNV.out.below D4.out).below hXV⟩)
 have B0 := Lib.hid (D4.out.trans (hXV.mono D4.out.size))
 have hgY : Y.heap.size = gS + 1 := by rw [← hY, ← hgS]; simp
 have hgZ : Z.heap.size = gS + 1 + 1 := by rw [← hZ, ← hgY]; simp
 have Hy_0 := Lib.hid (show FL V (some ⟨gS + 1, 0, none⟩) 1 1 true (.z 1 []) from by
  have h9 := one_fl (w := Y) (k := 1) (.inl rfl)
  rw [hZ, hgY] at h9
  exact h9.below hZV)
 have Hz_0 := Lib.hid (show FL V (some ⟨gS + 1 + 1, 0, none⟩) 1 1 true (.z 2 []) from by
  have h9 := one_fl (w := Z) (k := 2) (.inr rfl)
  rw [hV, hgZ] at h9
  exact h9)
 have Ha_0 := Lib.hid (HA4.out.below hXV)
 have Hb_0 := Lib.hid (HB4.out.below hXV)
 have HE := Lib.hid (And.intro hgS (And.intro hY (And.intro hgY (And.intro hZ (And.intro hgZ hV)))))
 clear x0 x1 hb4 hgS hY hZ hV h4Y hYZ hZV hYV hXY hXV hgY hgZ HT1 HT2 HT3 HT4 HA2 HA3 HA4 HB3 HB4 D1 D2 D3 D4
 go_wp2_with fail
 rw [HE.out.2.1, HE.out.2.2.2.1, HE.out.2.2.2.2.2, HE.out.1]
 have x0 := D0.out.x0
 have x1 := D0.out.x1
 have s0 := D0.out.s0
 have s1 := D0.out.s1
 obtain ⟨v0, v1⟩ := D0.out.nv
 refine wp_region_held_drew (S := fun U => (((U.cell? ⟨gT, 0, none⟩ = some (.slice NA nn nc) ∧ U.cell? ⟨gT, 1, none⟩ = some (.slice EA ne ec)) ∧ U.cell? ⟨gS, 0, none⟩ = some (.int .i64 lo) ∧ U.cell? ⟨gS, 1, none⟩ = some (.int .i64 hi)) ∧ U.cell? ⟨0, 0, none⟩ = some (.int .i64 0) ∧ U.cell? ⟨0, 1, none⟩ = some (.int .i64 0)) ∧ Below V.heap.size V U) (by kernel_rfl) ⟨⟨⟨⟨x0, x1⟩, s0, s1⟩, v0, v1⟩, (Below.refl _ _).drew⟩ (fun hHeld => ?_)
 clear x0 x1 s0 s1 v0 v1
 have Ha_00 := Lib.hid (Ha_0.out.below hHeld.2)
 have Hb_00 := Lib.hid (Hb_0.out.below hHeld.2)
 have Hy_00 := Lib.hid (Hy_0.out.below hHeld.2)
 have Hz_00 := Lib.hid (Hz_0.out.below hHeld.2)
 clear Ha_0 Hb_0 Hy_0 Hz_0
 refine tkOp 0 hHeld ?_
 refine tkOp 1 hHeld ?_
 refine tkOp 2 hHeld ?_
 refine tkOp 4 hHeld ?_
 refine tkOp 5 hHeld ?_
 refine tkCall 3 (fun Kt hKt => ?_)
 go_simp
 (go_at_call 9; refine (lawOneF (kd := 11) (lo := lo) (hi := hi) Ha_00.out (by omega) (by decide) (ndO_timed (by decide) HSM.out.1) (by decide) HSM.out.2).mono ?_; rintro e w1 ⟨Ap1, np1, cp1, rfl, fp1, lp1, h1⟩; have hB1 := hHeld.2.trans (h1.mono hHeld.2.size); have Ha_1 := Lib.hid (Ha_00.out.below h1); have Hb_1 := Lib.hid (Hb_00.out.below h1); have Hy_1 := Lib.hid (Hy_00.out.below h1); have Hz_1 := Lib.hid (Hz_00.out.below h1); have bp1 : np1 ≤ 101 := (by omega); have Hp1_1 := Lib.hid fp1; clear Ha_00 Hb_00 Hy_00 Hz_00 fp1 lp1)
 refine hKt.out _ _ ?_ (fun hT => ?_)
 ·(exact ⟨keep6 h1 hHeld.1, hB1⟩)
 clear hKt Kt hHeld
 have hHeld := hT
 clear hT
 try simp only [Act.put, tkA, tkB, tkC]
 clear h1 hB1
 refine tkCall 6 (fun Kt hKt => ?_)
 go_simp
 (go_at_call 10; refine (lawNotF Ha_1.out (by omega) (D0.out.below hHeld.2).nv).mono ?_; rintro e w2 ⟨Ap2, np2, cp2, rfl, fp2, lp2, h2⟩; have hB2 := hHeld.2.trans (h2.mono hHeld.2.size); have Ha_2 := Lib.hid (Ha_1.out.below h2); have Hb_2 := Lib.hid (Hb_1.out.below h2); have Hy_2 := Lib.hid (Hy_1.out.below h2); have Hz_2 := Lib.hid (Hz_1.out.below h2); have Hp1_2 := Lib.hid (Hp1_1.out.below h2); have bp2 : np2 ≤ 101 := (by omega); have Hp2_2 := Lib.hid fp2; clear Ha_1 Hb_1 Hy_1 Hz_1 Hp1_1 fp2 lp2)
 refine hKt.out _ _ ?_ (fun hT => ?_)
 ·(exact ⟨keep6 h2 hHeld.1, hB2⟩)
 clear hKt Kt hHeld
 have hHeld := hT
 clear hT
 try simp only [Act.put, tkA, tkB, tkC]
 clear h2 hB2
 refine tkCall 7 (fun Kt hKt => ?_)
 go_simp
 (go_at_call 9; refine (lawOneF (kd := 10) (lo := lo) (hi := hi) Hp2_2.out (by omega) (by decide) (ndO_timed (by decide) HSM.out.1) (by decide) HSM.out.2).mono ?_; rintro e w3 ⟨Ap3, np3, cp3, rfl, fp3, lp3, h3⟩; have hB3 := hHeld.2.trans (h3.mono hHeld.2.size); have Ha_3 := Lib.hid (Ha_2.out.below h3); have Hb_3 := Lib.hid (Hb_2.out.below h3); have Hy_3 := Lib.hid (Hy_2.out.below h3); have Hz_3 := Lib.hid (Hz_2.out.below h3); have Hp1_3 := Lib.hid (Hp1_2.out.below h3); have bp3 : np3 ≤ 102 := (by omega); have Hp3_3 := Lib.hid fp3; clear Ha_2 Hb_2 Hy_2 Hz_2 Hp1_2 Hp2_2 fp3 lp3)
 refine hKt.out _ _ ?_ (fun hT => ?_)
 ·(exact ⟨keep6 h3 hHeld.1, hB3⟩)
 clear hKt Kt hHeld
 have hHeld := hT
 clear hT
 try simp only [Act.put, tkA, tkB, tkC]
 clear h3 hB3
 refine tkCall 8 (fun Kt hKt => ?_)
 go_simp
 (go_at_call 10; refine (lawNotF Hp3_3.out (by omega) (D0.out.below hHeld.2).nv).mono ?_; rintro e w4 ⟨Ap4, np4, cp4, rfl, fp4, lp4, h4⟩; have hB4 := hHeld.2.trans (h4.mono hHeld.2.size); have Ha_4 := Lib.hid (Ha_3.out.below h4); have Hb_4 := Lib.hid (Hb_3.out.below h4); have Hy_4 := Lib.hid (Hy_3.out.below h4); have Hz_4 := Lib.hid (Hz_3.out.below h4); have Hp1_4 := Lib.hid (Hp1_3.out.below h4); have bp4 : np4 ≤ 103 := (by omega); have Hp4_4 := Lib.hid fp4; clear Ha_3 Hb_3 Hy_3 Hz_3 Hp1_3 Hp3_3 fp4 lp4)
 refine hKt.out _ _ ?_ (fun hT => ?_)
 ·(exact ⟨keep6 h4 hHeld.1, hB4⟩)
 clear hKt Kt hHeld
 have hHeld := hT
 clear hT
 try simp only [Act.put, tkA, tkB, tkC]
 clear h4 hB4
 refine tkCall 9 (fun Kt hKt => ?_)
 go_simp
 (go_at_call 8; refine (lawAlikeF NA nn nc EA ne ec t (D0.out.below hHeld.2).tr HMT.out (by omega) Hp1_4.out Hp4_4.out (by omega) (by omega) (dual_hist _ _ _ _)).mono ?_; rintro e w5 ⟨rfl, h5⟩; have hB5 := hHeld.2.trans (h5.mono hHeld.2.size); have Ha_5 := Lib.hid (Ha_4.out.below h5); have Hb_5 := Lib.hid (Hb_4.out.below h5); have Hy_5 := Lib.hid (Hy_4.out.below h5); have Hz_5 := Lib.hid (Hz_4.out.below h5); clear Ha_4 Hb_4 Hy_4 Hz_4 Hp1_4 Hp4_4)
 refine hKt.out _ _ ?_ (fun hT => ?_)
 ·(exact ⟨keep6 h5 hHeld.1, hB5⟩)
 clear hKt Kt hHeld
 have hHeld := hT
 clear hT
 try simp only [Act.put, tkA, tkB, tkC]
 clear h5 hB5
 refine tkOp 10 hHeld ?_
 refine tkOp 11 hHeld ?_
 refine tkOp 12 hHeld ?_
 refine tkOp 13 hHeld ?_
 refine tkOp 15 hHeld ?_
 refine tkOp 16 hHeld ?_
 refine tkCall 14 (fun Kt hKt => ?_)
 go_simp
 (go_at_call 9; refine (lawOneF (kd := 13) (lo := lo) (hi := hi) Ha_5.out (by omega) (by decide) (ndO_timed (by decide) HSM.out.1) (by decide) HSM.out.2).mono ?_; rintro e w6 ⟨Aq1, nq1, cq1, rfl, fq1, lq1, h6⟩; have hB6 := hHeld.2.trans (h6.mono hHeld.2.size); have Ha_6 := Lib.hid (Ha_5.out.below h6); have Hb_6 := Lib.hid (Hb_5.out.below h6); have Hy_6 := Lib.hid (Hy_5.out.below h6); have Hz_6 := Lib.hid (Hz_5.out.below h6); have bq1 : nq1 ≤ 101 := (by omega); have Hq1_6 := Lib.hid fq1; clear Ha_5 Hb_5 Hy_5 Hz_5 fq1 lq1)
 refine hKt.out _ _ ?_ (fun hT => ?_)
 ·(exact ⟨keep6 h6 hHeld.1, hB6⟩)
 clear hKt Kt hHeld
 have hHeld := hT
 clear hT
 try simp only [Act.put, tkA, tkB, tkC]
 clear h6 hB6
 refine tkCall 17 (fun Kt hKt => ?_)
 go_simp
 (go_at_call 10; refine (lawNotF Ha_6.out (by omega) (D0.out.below hHeld.2).nv).mono ?_; rintro e w7 ⟨Aq2, nq2, cq2, rfl, fq2, lq2, h7⟩; have hB7 := hHeld.2.trans (h7.mono hHeld.2.size); have Ha_7 := Lib.hid (Ha_6.out.below h7); have Hb_7 := Lib.hid (Hb_6.out.below h7); have Hy_7 := Lib.hid (Hy_6.out.below h7); have Hz_7 := Lib.hid (Hz_6.out.below h7); have Hq1_7 := Lib.hid (Hq1_6.out.below h7); have bq2 : nq2 ≤ 101 := (by omega); have Hq2_7 := Lib.hid fq2; clear Ha_6 Hb_6 Hy_6 Hz_6 Hq1_6 fq2 lq2)
 refine hKt.out _ _ ?_ (fun hT => ?_)
 ·(exact ⟨keep6 h7 hHeld.1, hB7⟩)
 clear hKt Kt hHeld
 have hHeld := hT
 clear hT
 try simp only [Act.put, tkA, tkB, tkC]
 clear h7 hB7
 refine tkCall 18 (fun Kt hKt => ?_)
 go_simp
 (go_at_call 9; refine (lawOneF (kd := 12) (lo := lo) (hi := hi) Hq2_7.out (by omega) (by decide) (ndO_timed (by decide) HSM.out.1) (by decide) HSM.out.2).mono ?_; rintro e w8 ⟨Aq3, nq3, cq3, rfl, fq3, lq3, h8⟩; have hB8 := hHeld.2.trans (h8.mono hHeld.2.size); have Ha_8 := Lib.hid (Ha_7.out.below h8); have Hb_8 := Lib.hid (Hb_7.out.below h8); have Hy_8 := Lib.hid (Hy_7.out.below h8); have Hz_8 := Lib.hid (Hz_7.out.below h8); have Hq1_8 := Lib.hid (Hq1_7.out.below h8); have bq3 : nq3 ≤ 102 := (by omega); have Hq3_8 := Lib.hid fq3; clear Ha_7 Hb_7 Hy_7 Hz_7 Hq1_7 Hq2_7 fq3 lq3)
 refine hKt.out _ _ ?_ (fun hT => ?_)
 ·(exact ⟨keep6 h8 hHeld.1, hB8⟩)
 clear hKt Kt hHeld
 have hHeld := hT
 clear hT
 try simp only [Act.put, tkA, tkB, tkC]
 clear h8 hB8
 refine tkCall 19 (fun Kt hKt => ?_)
 go_simp
 (go_at_call 10; refine (lawNotF Hq3_8.out (by omega) (D0.out.below hHeld.2).nv).mono ?_; rintro e w9 ⟨Aq4, nq4, cq4, rfl, fq4, lq4, h9⟩; have hB9 := hHeld.2.trans (h9.mono hHeld.2.size); have Ha_9 := Lib.hid (Ha_8.out.below h9); have Hb_9 := Lib.hid (Hb_8.out.below h9); have Hy_9 := Lib.hid (Hy_8.out.below h9); have Hz_9 := Lib.hid (Hz_8.out.below h9); have Hq1_9 := Lib.hid (Hq1_8.out.below h9); have bq4 : nq4 ≤ 103 := (by omega); have Hq4_9 := Lib.hid fq4; clear Ha_8 Hb_8 Hy_8 Hz_8 Hq1_8 Hq3_8 fq4 lq4)
 refine hKt.out _ _ ?_ (fun hT => ?_)
 ·(exact ⟨keep6 h9 hHeld.1, hB9⟩)
 clear hKt Kt hHeld
 have hHeld := hT
 clear hT
 try simp only [Act.put, tkA, tkB, tkC]
 clear h9 hB9
 refine tkCall 20 (fun Kt hKt => ?_)
 go_simp
 (go_at_call 8; refine (lawAlikeF NA nn nc EA ne ec t (D0.out.below hHeld.2).tr HMT.out (by omega) Hq1_9.out Hq4_9.out (by omega) (by omega) (dual_all _ _ _ _)).mono ?_; rintro e w10 ⟨rfl, h10⟩; have hB10 := hHeld.2.trans (h10.mono hHeld.2.size); have Ha_10 := Lib.hid (Ha_9.out.below h10); have Hb_10 := Lib.hid (Hb_9.out.below h10); have Hy_10 := Lib.hid (Hy_9.out.below h10); have Hz_10 := Lib.hid (Hz_9.out.below h10); clear Ha_9 Hb_9 Hy_9 Hz_9 Hq1_9 Hq4_9)
 refine hKt.out _ _ ?_ (fun hT => ?_)
 ·(exact ⟨keep6 h10 hHeld.1, hB10⟩)
 clear hKt Kt hHeld
 have hHeld := hT
 clear hT
 try simp only [Act.put, tkA, tkB, tkC]
 clear h10 hB10
 refine tkOp 21 hHeld ?_
 refine tkOp 22 hHeld ?_
 refine tkOp 23 hHeld ?_
 refine tkOp 24 hHeld ?_
 refine tkOp 25 hHeld ?_
 refine tkOp 26 hHeld ?_
 refine tkOp 28 hHeld ?_
 refine tkOp 29 hHeld ?_
 refine tkCall 27 (fun Kt hKt => ?_)
 go_simp
 (go_at_call 11; refine (lawTwoF (kd := 14) (lo := lo) (hi := hi) Hy_10.out Ha_10.out (by omega) (by omega) (by decide) (ndO_timed (by decide) HSM.out.1) (by decide) HSM.out.2).mono ?_; rintro e w11 ⟨Ar1, nr1, cr1, rfl, fr1, lr1, h11⟩; have hB11 := hHeld.2.trans (h11.mono hHeld.2.size); have Ha_11 := Lib.hid (Ha_10.out.below h11); have Hb_11 := Lib.hid (Hb_10.out.below h11); have Hy_11 := Lib.hid (Hy_10.out.below h11); have Hz_11 := Lib.hid (Hz_10.out.below h11); have br1 : nr1 ≤ 102 := (by omega); have Hr1_11 := Lib.hid fr1; clear Ha_10 Hb_10 Hy_10 Hz_10 fr1 lr1)
 refine hKt.out _ _ ?_ (fun hT => ?_)
 ·(exact ⟨keep6 h11 hHeld.1, hB11⟩)
 clear hKt Kt hHeld
 have hHeld := hT
 clear hT
 try simp only [Act.put, tkA, tkB, tkC]
 clear h11 hB11
 refine tkCall 30 (fun Kt hKt => ?_)
 go_simp
 (go_at_call 9; refine (lawOneF (kd := 10) (lo := lo) (hi := hi) Ha_11.out (by omega) (by decide) (ndO_timed (by decide) HSM.out.1) (by decide) HSM.out.2).mono ?_; rintro e w12 ⟨Ar2, nr2, cr2, rfl, fr2, lr2, h12⟩; have hB12 := hHeld.2.trans (h12.mono hHeld.2.size); have Ha_12 := Lib.hid (Ha_11.out.below h12); have Hb_12 := Lib.hid (Hb_11.out.below h12); have Hy_12 := Lib.hid (Hy_11.out.below h12); have Hz_12 := Lib.hid (Hz_11.out.below h12); have Hr1_12 := Lib.hid (Hr1_11.out.below h12); have br2 : nr2 ≤ 101 := (by omega); have Hr2_12 := Lib.hid fr2; clear Ha_11 Hb_11 Hy_11 Hz_11 Hr1_11 fr2 lr2)
 refine hKt.out _ _ ?_ (fun hT => ?_)
 ·(exact ⟨keep6 h12 hHeld.1, hB12⟩)
 clear hKt Kt hHeld
 have hHeld := hT
 clear hT
 try simp only [Act.put, tkA, tkB, tkC]
 clear h12 hB12
 refine tkCall 31 (fun Kt hKt => ?_)
 go_simp
 (go_at_call 8; refine (lawAlikeF NA nn nc EA ne ec t (D0.out.below hHeld.2).tr HMT.out (by omega) Hr1_12.out Hr2_12.out (by omega) (by omega) (since_yes _ _ _ _ _)).mono ?_; rintro e w13 ⟨rfl, h13⟩; have hB13 := hHeld.2.trans (h13.mono hHeld.2.size); have Ha_13 := Lib.hid (Ha_12.out.below h13); have Hb_13 := Lib.hid (Hb_12.out.below h13); have Hy_13 := Lib.hid (Hy_12.out.below h13); have Hz_13 := Lib.hid (Hz_12.out.below h13); clear Ha_12 Hb_12 Hy_12 Hz_12 Hr1_12 Hr2_12)
 refine hKt.out _ _ ?_ (fun hT => ?_)
 ·(exact ⟨keep6 h13 hHeld.1, hB13⟩)
 clear hKt Kt hHeld
 have hHeld := hT
 clear hT
 try simp only [Act.put, tkA, tkB, tkC]
 clear h13 hB13
 refine tkOp 32 hHeld ?_
 refine tkOp 33 hHeld ?_
 refine tkOp 34 hHeld ?_
 refine tkOp 35 hHeld ?_
 refine tkOp 36 hHeld ?_
 refine tkOp 37 hHeld ?_
 refine tkOp 39 hHeld ?_
 refine tkOp 40 hHeld ?_
 refine tkCall 38 (fun Kt hKt => ?_)
 go_simp
 (go_at_call 11; refine (lawTwoF (kd := 15) (lo := lo) (hi := hi) Hy_13.out Ha_13.out (by omega) (by omega) (by decide) (ndO_timed (by decide) HSM.out.1) (by decide) HSM.out.2).mono ?_; rintro e w14 ⟨At1, nt1, ct1, rfl, ft1, lt1, h14⟩; have hB14 := hHeld.2.trans (h14.mono hHeld.2.size); have Ha_14 := Lib.hid (Ha_13.out.below h14); have Hb_14 := Lib.hid (Hb_13.out.below h14); have Hz_14 := Lib.hid (Hz_13.out.below h14); have bt1 : nt1 ≤ 102 := (by omega); have Ht1_14 := Lib.hid ft1; clear Ha_13 Hb_13 Hy_13 Hz_13 ft1 lt1)
 refine hKt.out _ _ ?_ (fun hT => ?_)
 ·(exact ⟨keep6 h14 hHeld.1, hB14⟩)
 clear hKt Kt hHeld
 have hHeld := hT
 clear hT
 try simp only [Act.put, tkA, tkB, tkC]
 clear h14 hB14
 refine tkCall 41 (fun Kt hKt => ?_)
 go_simp
 (go_at_call 9; refine (lawOneF (kd := 12) (lo := lo) (hi := hi) Ha_14.out (by omega) (by decide) (ndO_timed (by decide) HSM.out.1) (by decide) HSM.out.2).mono ?_; rintro e w15 ⟨At2, nt2, ct2, rfl, ft2, lt2, h15⟩; have hB15 := hHeld.2.trans (h15.mono hHeld.2.size); have Ha_15 := Lib.hid (Ha_14.out.below h15); have Hb_15 := Lib.hid (Hb_14.out.below h15); have Hz_15 := Lib.hid (Hz_14.out.below h15); have Ht1_15 := Lib.hid (Ht1_14.out.below h15); have bt2 : nt2 ≤ 101 := (by omega); have Ht2_15 := Lib.hid ft2; clear Ha_14 Hb_14 Hz_14 Ht1_14 ft2 lt2)
 refine hKt.out _ _ ?_ (fun hT => ?_)
 ·(exact ⟨keep6 h15 hHeld.1, hB15⟩)
 clear hKt Kt hHeld
 have hHeld := hT
 clear hT
 try simp only [Act.put, tkA, tkB, tkC]
 clear h15 hB15
 refine tkCall 42 (fun Kt hKt => ?_)
 go_simp
 (go_at_call 8; refine (lawAlikeF NA nn nc EA ne ec t (D0.out.below hHeld.2).tr HMT.out (by omega) Ht1_15.out Ht2_15.out (by omega) (by omega) (until_yes _ _ _ _ _)).mono ?_; rintro e w16 ⟨rfl, h16⟩; have hB16 := hHeld.2.trans (h16.mono hHeld.2.size); have Ha_16 := Lib.hid (Ha_15.out.below h16); have Hb_16 := Lib.hid (Hb_15.out.below h16); have Hz_16 := Lib.hid (Hz_15.out.below h16); clear Ha_15 Hb_15 Hz_15 Ht1_15 Ht2_15)
 refine hKt.out _ _ ?_ (fun hT => ?_)
 ·(exact ⟨keep6 h16 hHeld.1, hB16⟩)
 clear hKt Kt hHeld
 have hHeld := hT
 clear hT
 try simp only [Act.put, tkA, tkB, tkC]
 clear h16 hB16
 refine tkOp 43 hHeld ?_
 refine tkOp 44 hHeld ?_
 refine tkOp 45 hHeld ?_
 refine tkOp 46 hHeld ?_
 refine tkOp 47 hHeld ?_
 refine tkOp 48 hHeld ?_
 refine tkOp 50 hHeld ?_
 refine tkCall 49 (fun Kt hKt => ?_)
 go_simp
 (go_at_call 11; refine (lawTwoF (kd := 15) (lo := 0) (hi := -1) Hz_16.out Ha_16.out (by omega) (by omega) (by decide) (by decide) (by decide) smallE).mono ?_; rintro e w17 ⟨Au1, nu1, cu1, rfl, fu1, lu1, h17⟩; have hB17 := hHeld.2.trans (h17.mono hHeld.2.size); have Ha_17 := Lib.hid (Ha_16.out.below h17); have Hb_17 := Lib.hid (Hb_16.out.below h17); have bu1 : nu1 ≤ 102 := (by omega); have Hu1_17 := Lib.hid fu1; clear Ha_16 Hb_16 Hz_16 fu1 lu1)
 refine hKt.out _ _ ?_ (fun hT => ?_)
 ·(exact ⟨keep6 h17 hHeld.1, hB17⟩)
 clear hKt Kt hHeld
 have hHeld := hT
 clear hT
 try simp only [Act.put, tkA, tkB, tkC]
 clear h17 hB17
 refine tkCall 51 (fun Kt hKt => ?_)
 go_simp
 (go_at_call 8; refine (lawAlikeF NA nn nc EA ne ec t (D0.out.below hHeld.2).tr HMT.out (by omega) Hu1_17.out Ha_17.out (by omega) (by omega) (until_no _ _ _)).mono ?_; rintro e w18 ⟨rfl, h18⟩; have hB18 := hHeld.2.trans (h18.mono hHeld.2.size); have Ha_18 := Lib.hid (Ha_17.out.below h18); have Hb_18 := Lib.hid (Hb_17.out.below h18); clear Ha_17 Hb_17 Hu1_17)
 refine hKt.out _ _ ?_ (fun hT => ?_)
 ·(exact ⟨keep6 h18 hHeld.1, hB18⟩)
 clear hKt Kt hHeld
 have hHeld := hT
 clear hT
 try simp only [Act.put, tkA, tkB, tkC]
 clear h18 hB18
 refine tkOp 52 hHeld ?_
 refine tkOp 53 hHeld ?_
 refine tkOp 54 hHeld ?_
 refine tkOp 55 hHeld ?_
 refine tkOp 56 hHeld ?_
 refine tkOp 57 hHeld ?_
 refine tkOp 59 hHeld ?_
 refine tkOp 60 hHeld ?_
 refine tkOp 62 hHeld ?_
 refine tkCall 58 (fun Kt hKt => ?_)
 go_simp
 (go_at_call 11; refine (lawTwoF (kd := 7) (lo := 0) (hi := 0) Ha_18.out Hb_18.out (by omega) (by omega) (by decide) (by decide) (by decide) small0).mono ?_; rintro e w19 ⟨Ai1, ni1, ci1, rfl, fi1, li1, h19⟩; have hB19 := hHeld.2.trans (h19.mono hHeld.2.size); have Ha_19 := Lib.hid (Ha_18.out.below h19); have Hb_19 := Lib.hid (Hb_18.out.below h19); have bi1 : ni1 ≤ 201 := (by omega); have Hi1_19 := Lib.hid fi1; clear Ha_18 Hb_18 fi1 li1)
 refine hKt.out _ _ ?_ (fun hT => ?_)
 ·(exact ⟨keep6 h19 hHeld.1, hB19⟩)
 clear hKt Kt hHeld
 have hHeld := hT
 clear hT
 try simp only [Act.put, tkA, tkB, tkC]
 clear h19 hB19
 refine tkCall 61 (fun Kt hKt => ?_)
 go_simp
 (go_at_call 10; refine (lawNotF Ha_19.out (by omega) (D0.out.below hHeld.2).nv).mono ?_; rintro e w20 ⟨Ai2, ni2, ci2, rfl, fi2, li2, h20⟩; have hB20 := hHeld.2.trans (h20.mono hHeld.2.size); have Ha_20 := Lib.hid (Ha_19.out.below h20); have Hb_20 := Lib.hid (Hb_19.out.below h20); have Hi1_20 := Lib.hid (Hi1_19.out.below h20); have bi2 : ni2 ≤ 101 := (by omega); have Hi2_20 := Lib.hid fi2; clear Ha_19 Hb_19 Hi1_19 fi2 li2)
 refine hKt.out _ _ ?_ (fun hT => ?_)
 ·(exact ⟨keep6 h20 hHeld.1, hB20⟩)
 clear hKt Kt hHeld
 have hHeld := hT
 clear hT
 try simp only [Act.put, tkA, tkB, tkC]
 clear h20 hB20
 refine tkCall 63 (fun Kt hKt => ?_)
 go_simp
 (go_at_call 11; refine (lawTwoF (kd := 6) (lo := 0) (hi := 0) Hi2_20.out Hb_20.out (by omega) (by omega) (by decide) (by decide) (by decide) small0).mono ?_; rintro e w21 ⟨Ai3, ni3, ci3, rfl, fi3, li3, h21⟩; have hB21 := hHeld.2.trans (h21.mono hHeld.2.size); have Ha_21 := Lib.hid (Ha_20.out.below h21); have Hb_21 := Lib.hid (Hb_20.out.below h21); have Hi1_21 := Lib.hid (Hi1_20.out.below h21); have bi3 : ni3 ≤ 202 := (by omega); have Hi3_21 := Lib.hid fi3; clear Ha_20 Hb_20 Hi1_20 Hi2_20 fi3 li3)
 refine hKt.out _ _ ?_ (fun hT => ?_)
 ·(exact ⟨keep6 h21 hHeld.1, hB21⟩)
 clear hKt Kt hHeld
 have hHeld := hT
 clear hT
 try simp only [Act.put, tkA, tkB, tkC]
 clear h21 hB21
 refine tkCall 64 (fun Kt hKt => ?_)
 go_simp
 (go_at_call 8; refine (lawAlikeF NA nn nc EA ne ec t (D0.out.below hHeld.2).tr HMT.out (by omega) Hi1_21.out Hi3_21.out (by omega) (by omega) (imp_or _ _ _)).mono ?_; rintro e w22 ⟨rfl, h22⟩; have hB22 := hHeld.2.trans (h22.mono hHeld.2.size); have Ha_22 := Lib.hid (Ha_21.out.below h22); have Hb_22 := Lib.hid (Hb_21.out.below h22); clear Ha_21 Hb_21 Hi1_21 Hi3_21)
 refine hKt.out _ _ ?_ (fun hT => ?_)
 ·(exact ⟨keep6 h22 hHeld.1, hB22⟩)
 clear hKt Kt hHeld
 have hHeld := hT
 clear hT
 try simp only [Act.put, tkA, tkB, tkC]
 clear h22 hB22
 refine tkOp 65 hHeld ?_
 refine tkOp 66 hHeld ?_
 refine tkOp 67 hHeld ?_
 refine tkOp 68 hHeld ?_
 refine tkOp 69 hHeld ?_
 refine tkOp 70 hHeld ?_
 refine tkOp 73 hHeld ?_
 refine tkOp 74 hHeld ?_
 refine tkOp 76 hHeld ?_
 refine tkCall 71 (fun Kt hKt => ?_)
 go_simp
 (go_at_call 11; refine (lawTwoF (kd := 5) (lo := 0) (hi := 0) Ha_22.out Hb_22.out (by omega) (by omega) (by decide) (by decide) (by decide) small0).mono ?_; rintro e w23 ⟨Aj1, nj1, cj1, rfl, fj1, lj1, h23⟩; have hB23 := hHeld.2.trans (h23.mono hHeld.2.size); have Ha_23 := Lib.hid (Ha_22.out.below h23); have Hb_23 := Lib.hid (Hb_22.out.below h23); have bj1 : nj1 ≤ 201 := (by omega); have Hj1_23 := Lib.hid fj1; clear Ha_22 Hb_22 fj1 lj1)
 refine hKt.out _ _ ?_ (fun hT => ?_)
 ·(exact ⟨keep6 h23 hHeld.1, hB23⟩)
 clear hKt Kt hHeld
 have hHeld := hT
 clear hT
 try simp only [Act.put, tkA, tkB, tkC]
 clear h23 hB23
 refine tkCall 72 (fun Kt hKt => ?_)
 go_simp
 (go_at_call 10; refine (lawNotF Hj1_23.out (by omega) (D0.out.below hHeld.2).nv).mono ?_; rintro e w24 ⟨Aj2, nj2, cj2, rfl, fj2, lj2, h24⟩; have hB24 := hHeld.2.trans (h24.mono hHeld.2.size); have Ha_24 := Lib.hid (Ha_23.out.below h24); have Hb_24 := Lib.hid (Hb_23.out.below h24); have bj2 : nj2 ≤ 202 := (by omega); have Hj2_24 := Lib.hid fj2; clear Ha_23 Hb_23 Hj1_23 fj2 lj2)
 refine hKt.out _ _ ?_ (fun hT => ?_)
 ·(exact ⟨keep6 h24 hHeld.1, hB24⟩)
 clear hKt Kt hHeld
 have hHeld := hT
 clear hT
 try simp only [Act.put, tkA, tkB, tkC]
 clear h24 hB24
 refine tkCall 75 (fun Kt hKt => ?_)
 go_simp
 (go_at_call 10; refine (lawNotF Ha_24.out (by omega) (D0.out.below hHeld.2).nv).mono ?_; rintro e w25 ⟨Aj3, nj3, cj3, rfl, fj3, lj3, h25⟩; have hB25 := hHeld.2.trans (h25.mono hHeld.2.size); have Hb_25 := Lib.hid (Hb_24.out.below h25); have Hj2_25 := Lib.hid (Hj2_24.out.below h25); have bj3 : nj3 ≤ 101 := (by omega); have Hj3_25 := Lib.hid fj3; clear Ha_24 Hb_24 Hj2_24 fj3 lj3)
 refine hKt.out _ _ ?_ (fun hT => ?_)
 ·(exact ⟨keep6 h25 hHeld.1, hB25⟩)
 clear hKt Kt hHeld
 have hHeld := hT
 clear hT
 try simp only [Act.put, tkA, tkB, tkC]
 clear h25 hB25
 refine tkCall 77 (fun Kt hKt => ?_)
 go_simp
 (go_at_call 10; refine (lawNotF Hb_25.out (by omega) (D0.out.below hHeld.2).nv).mono ?_; rintro e w26 ⟨Aj4, nj4, cj4, rfl, fj4, lj4, h26⟩; have hB26 := hHeld.2.trans (h26.mono hHeld.2.size); have Hj2_26 := Lib.hid (Hj2_25.out.below h26); have Hj3_26 := Lib.hid (Hj3_25.out.below h26); have bj4 : nj4 ≤ 101 := (by omega); have Hj4_26 := Lib.hid fj4; clear Hb_25 Hj2_25 Hj3_25 fj4 lj4)
 refine hKt.out _ _ ?_ (fun hT => ?_)
 ·(exact ⟨keep6 h26 hHeld.1, hB26⟩)
 clear hKt Kt hHeld
 have hHeld := hT
 clear hT
 try simp only [Act.put, tkA, tkB, tkC]
 clear h26 hB26
 refine tkCall 78 (fun Kt hKt => ?_)
 go_simp
 (go_at_call 11; refine (lawTwoF (kd := 6) (lo := 0) (hi := 0) Hj3_26.out Hj4_26.out (by omega) (by omega) (by decide) (by decide) (by decide) small0).mono ?_; rintro e w27 ⟨Aj5, nj5, cj5, rfl, fj5, lj5, h27⟩; have hB27 := hHeld.2.trans (h27.mono hHeld.2.size); have Hj2_27 := Lib.hid (Hj2_26.out.below h27); have bj5 : nj5 ≤ 203 := (by omega); have Hj5_27 := Lib.hid fj5; clear Hj2_26 Hj3_26 Hj4_26 fj5 lj5)
 refine hKt.out _ _ ?_ (fun hT => ?_)
 ·(exact ⟨keep6 h27 hHeld.1, hB27⟩)
 clear hKt Kt hHeld
 have hHeld := hT
 clear hT
 try simp only [Act.put, tkA, tkB, tkC]
 clear h27 hB27
 refine tkCall 79 (fun Kt hKt => ?_)
 go_simp
 (go_at_call 8; refine (lawAlikeF NA nn nc EA ne ec t (D0.out.below hHeld.2).tr HMT.out (by omega) Hj2_27.out Hj5_27.out (by omega) (by omega) (not_and _ _ _)).mono ?_; rintro e w28 ⟨rfl, h28⟩; have hB28 := hHeld.2.trans (h28.mono hHeld.2.size); clear Hj2_27 Hj5_27)
 refine hKt.out _ _ ?_ (fun hT => ?_)
 ·(exact ⟨keep6 h28 hHeld.1, hB28⟩)
 clear hKt Kt hHeld
 have hHeld := hT
 clear hT
 try simp only [Act.put, tkA, tkB, tkC]
 clear h28 hB28
 refine tkOp 80 hHeld ?_
 refine tkOp 81 hHeld ?_
 refine tkCall 82 (fun Kt hKt => ?_)
 go_simp
 (go_at_call 12; refine (HAW.out _).mono ?_; rintro e w29 ⟨rfl, h29⟩; have hB29 := hHeld.2.trans (h29.mono hHeld.2.size))
 refine hKt.out _ _ ?_ (fun hT => ?_)
 ·(exact ⟨keep6 h29 hHeld.1, hB29⟩)
 clear hKt Kt hHeld
 have hHeld := hT
 clear hT
 try simp only [Act.put, tkA, tkB, tkC]
 clear h29 hB29
 refine tkOp 83 hHeld ?_
 refine tkOp 84 hHeld ?_
 refine wpAnyH_done (by kernel_rfl) ?_ _
 have HZ := Lib.hid hHeld.2
 clear hHeld
 go_wp2_with fail
 go_ret
 exact ⟨rfl, B0.out.trans (HZ.out.mono B0.out.size)⟩
end Go.Proofs.YtdbgaccnejffpaaGreatDoor.Sat

namespace Go.Proofs.YtdbgaccnejffpaaGreatDoor.SatNone
open Go.RowKit Go.Proofs.YtdbgaccnejffpaaGreatDoor.Mem
theorem gNone : Tryz.prog.globalNamed "watchglass/watchglasslaw15.none" = some 0 := by kernel_rfl
theorem tNone : (Tryz.prog.globals[0]?).map (·.type) = some 33 := by kernel_rfl
theorem structSpan : Tryz.prog.underlying 33 = some (.struct (Tryz.prog.fieldsOf 33)) := by kernel_rfl
theorem fieldsSpan : (Tryz.prog.fieldsOf 33).toList.map (fun f => (f.type, f.offset)) = [(3, 0), (3, 1)] := by kernel_rfl
set_option maxRecDepth 100000 in
theorem tab_of {W : World} (h : laidMetH Tryz.prog [("watchglass/watchglasslaw15.none", Rows.laid_watchglass_watchglasslaw15_none)] W) : Sat.NoneV W := by
 rw [MakeChecks.laidMetH_plain _ _ _ (by kernel_rfl)] at h
 obtain ⟨ps, ⟨g0, t0, cs0, f0, p0, q0, hg0, ht0, hv0, hd0, _, _⟩, _, _⟩ := h
 obtain rfl := Option.some.inj (gNone.symm.trans hg0)
 obtain rfl := Option.some.inj (tNone.symm.trans ht0)
 obtain ⟨ys, m, -, hx, -, hlen, hf⟩ := DataW.trod_struct structSpan hd0
 have hsz : (Tryz.prog.fieldsOf 33).size = 2 := by
  have := congrArg List.length fieldsSpan
  simpa using this
 obtain ⟨u0, w0, t0, o0⟩ := field_at fieldsSpan (i := 0) rfl
 obtain ⟨u1, w1, t1, o1⟩ := field_at fieldsSpan (i := 1) rfl
 obtain ⟨y0, e0⟩ : ∃ y, ys[0]? = some y := ⟨_, List.getElem?_eq_getElem (by omega)⟩
 obtain ⟨y1, e1⟩ : ∃ y, ys[1]? = some y := ⟨_, List.getElem?_eq_getElem (by omega)⟩
 have k0 := hf 0 u0 w0
 have k1 := hf 1 u1 w1
 rw [t0, o0, e0, cellsInt] at k0
 rw [t1, o1, e1, cellsInt] at k1
 obtain ⟨z0, c0, d0, -⟩ := DataW.trod_int Tryz.underlying3 k0
 obtain ⟨z1, c1, d1, -⟩ := DataW.trod_int Tryz.underlying3 k1
 have hl : [(DataW.lit (.int .i64 0) : DataW Unit), .lit (.int .i64 0)] = ys.map (·.1) := DataW.agg.inj (show DataW.agg [(DataW.lit (.int .i64 0) : DataW Unit), .lit (.int .i64 0)] = .agg (ys.map (·.1)) from congrArg Prod.fst hx)
 have h0 : z0 = 0 := by
  have := congrArg (·[0]?) hl
  simp [List.getElem?_map, e0, d0] at this
  exact this.symm
 have h1 : z1 = 0 := by
  have := congrArg (·[1]?) hl
  simp [List.getElem?_map, e1, d1] at this
  exact this.symm
 have q0 := one_of c0
 have q1 := one_of c1
 rw [h0] at q0
 rw [h1] at q1
 refine ⟨(World.var?_cell hg0 hv0 0).trans ?_, (World.var?_cell hg0 hv0 1).trans ?_⟩
 ·rw [← Array.getElem?_toList]; exact q0
 ·rw [← Array.getElem?_toList]; exact q1
noncomputable def laidWorld (os : Os) : World := World.holding Tryz.prog os ⟨#[], #[], []⟩
end Go.Proofs.YtdbgaccnejffpaaGreatDoor.SatNone
