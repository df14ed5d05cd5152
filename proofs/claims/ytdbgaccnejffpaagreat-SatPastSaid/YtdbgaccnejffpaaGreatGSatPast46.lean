/-
  The law SatPast (stage 15). By an AI agent.
-/
import Derived.Test.YtdbgaccnejffpaaGreatGSatPast1
import Derived.Test.YtdbgaccnejffpaaGreatGSatPast41
import Derived.Test.YtdbgaccnejffpaaGreatGSatPast45
namespace Go.Proofs.YtdbgaccnejffpaaGreat.Sat
open Go.RowKit Go.Proofs.YtdbgaccnejffpaaGreat.Ints Go.Proofs.YtdbgaccnejffpaaGreat.Mem Go.Proofs.YtdbgaccnejffpaaGreat.Src Go.Proofs.YtdbgaccnejffpaaGreat.Paths Go.Proofs.YtdbgaccnejffpaaGreat.Late Go.Proofs.YtdbgaccnejffpaaGreat.Trace

theorem cutT_len {t : Tr} (h : mayT t = true) {k : Nat} (hk : k ≤ t.events.length) : (cutT t k).events.length = k := by
 have e : cutT t k = ⟨t.names, t.events.take k⟩ := by unfold cutT; rw [if_pos h, Int.toNat_natCast]
 rw [e]
 show (t.events.take k).length = k
 rw [List.length_take]
 omega
theorem w47 {w V U : World} (h : Below w.heap.size w V) (h2 : Below V.heap.size V U) : Below w.heap.size w U := h.trans (h2.mono h.size)
theorem keep4 {V V' : World} {p q r s : Addr} {a b c d : Value} (hb : Below V.heap.size V V') (h : (V.cell? ⟨p.block, p.off, none⟩ = some a ∧ V.cell? ⟨q.block, q.off, none⟩ = some b) ∧ V.cell? ⟨r.block, r.off, none⟩ = some c ∧ V.cell? ⟨s.block, s.off, none⟩ = some d) :
   (V'.cell? ⟨p.block, p.off, none⟩ = some a ∧ V'.cell? ⟨q.block, q.off, none⟩ = some b) ∧ V'.cell? ⟨r.block, r.off, none⟩ = some c ∧ V'.cell? ⟨s.block, s.off, none⟩ = some d :=
 ⟨⟨below_cell hb h.1.1, below_cell hb h.1.2⟩, below_cell hb h.2.1, below_cell hb h.2.2⟩
set_option maxHeartbeats 16000000 in
set_option maxRecDepth 100000 in
theorem lawPastS (start : Int) (A : Option Addr) (n c : Nat) (zs : List Int) (B : Option Addr) (m d : Nat) (ys : List Int) (cut : Int) (w : World) (h0 : 0 ≤ start ∧ start ≤ 18446744073709551615) (hr : Rd .u16 w A n zs) (hc : n ≤ maxLen) (hr2 : Rd .u16 w B m ys) (hc2 : m ≤ maxLen) (hcut : 0 ≤ cut ∧ cut ≤ 255) :
   Calls Tryz.prog 5 #[.int .u64 start, .slice A n c, .slice B m d, .int .u8 cut] w fun e w' => e = .returned (.bool true) ∧ Below w.heap.size w w' := by
 have HMK1 := Lib.hid (Trace.lawMake start A n c zs w h0 hr hc)
 have HMK2 := Lib.hid (fun W (hb : Below w.heap.size w W) => Tree.lawMake B m d ys false W (hr2.below hb) hc2)
 obtain ⟨T, hT⟩ : ∃ T, makeM start zs = T := ⟨_, rfl⟩
 obtain ⟨L, hL⟩ : ∃ L, Tree.makeL false ys = L := ⟨_, rfl⟩
 have HMT := Lib.hid (show mayT T = true by rw [← hT]; exact make_may zs (fun z hz => (wf_u16 (hr.all z hz)).1))
 have HST := Lib.hid (show TrSmall T by rw [← hT]; exact make_trsmall zs)
 have hl60 : T.events.length ≤ 60 := by rw [← hT]; exact (make_small start zs).1
 have HG := Lib.hid (show Tree.formL L = true ∧ L.length ≤ 100 from by
   have h9 := Tree.make_ok false ys (fun z hz => wf_u16 (hr2.all z hz))
   rw [hL] at h9
   exact ⟨h9.1.form, h9.2⟩)
 rw [hT] at HMK1
 rw [hL] at HMK2
 obtain ⟨hc1, hc3⟩ := hcut
 clear hT hL hr hc hr2 hc2 h0
 go_enter Tryz.func5, Tryz.ntmps5
 go_wp2_with fail
 refine (HMK1.out).mono ?_
 rintro e w1 ⟨NU, un, uc, EU, ue, uk, rfl, hTU, hb1⟩
 have D1 := Lib.hid hb1
 have HT1 := Lib.hid hTU
 have hue : ue ≤ 60 := by rw [← hTU.elen]; exact hl60
 have HL := Lib.hid hTU.elen
 clear hTU hb1
 go_wp2_with fail
 refine (HMK2.out _ D1.out).mono ?_
 rintro e w2 ⟨AL, cL, rfl, hNL, hcL, hcM, hb2⟩
 have D2 := Lib.hid (D1.out.trans (hb2.mono D1.out.size))
 have HT2 := Lib.hid (HT1.out.below hb2)
 obtain ⟨nl, hnl⟩ : ∃ nl, L.length = nl := ⟨_, rfl⟩
 rw [hnl] at hcL ⊢
 have hnl100 : nl ≤ 100 := by rw [← hnl]; exact HG.out.2
 obtain ⟨g, hg⟩ : ∃ g, w2.heap.size = g := ⟨_, rfl⟩
 obtain ⟨X, hX⟩ : ∃ X, w2.alloc (.cells #[.slice NU un uc, .slice EU ue uk] 25) = X := ⟨_, rfl⟩
 have h2X : Below w2.heap.size w2 X := by rw [← hX]; exact (Below.refl _ _).alloc (Nat.le_refl _) _
 have x0 : X.cell? ⟨g, 0, none⟩ = some (.slice NU un uc) := by rw [← hX, ← hg]; exact box_cell 0 _ rfl
 have x1 : X.cell? ⟨g, 1, none⟩ = some (.slice EU ue uk) := by rw [← hX, ← hg]; exact box_cell 1 _ rfl
 have hgX : g < X.heap.size := World.block_lt_of_cell? _ _ x0
 have D3 := Lib.hid (D2.out.trans (h2X.mono D2.out.size))
 have HT3 := Lib.hid (HT2.out.below h2X)
 have HN3 := Lib.hid (hNL.below h2X)
 have HX := Lib.hid hX
 have HNL := Lib.hid (And.intro hnl (And.intro hcL hcM))
 obtain ⟨k, hk⟩ : ∃ k : Nat, Int.tmod cut ((ue : Int) + 1) = (k : Int) := ⟨(Int.tmod cut ((ue : Int) + 1)).toNat, by have := Int.tmod_nonneg ((ue : Int) + 1) hc1; omega⟩
 have hke : k ≤ ue := by have := Int.tmod_lt_of_pos cut (show (0 : Int) < (ue : Int) + 1 by omega); omega
 have hc64 : IntKind.i64.wrap cut = cut := wrap_small _ (by omega)
 have hu1 : IntKind.i64.wrap ((ue : Int) + 1) = (ue : Int) + 1 := wrap_small _ (by omega)
 have hu0 : ¬ ((ue : Int) + 1 = 0) := by omega
 clear h2X hb2 hNL hcL hcM hX hnl
 go_wp2_with fail
 rw [HX.out]
 refine (lawPast AL nl cL L true X HN3.out HNL.out.1 (by omega)).mono ?_
 rintro e w3 ⟨AP, cP, rfl, hNP, hcP, hcPM, hb3⟩
 rw [List.length_map, HNL.out.1] at hcP ⊢
 obtain ⟨P, hP⟩ : ∃ P, L.map (reKind (pastG true)) = P := ⟨_, rfl⟩
 rw [hP] at hNP
 have HP := Lib.hid hP
 have HFP := Lib.hid (show Tree.formL P = true ∧ P.length = nl from ⟨by rw [← hP]; exact past_form HG.out.1 true, by rw [← hP, List.length_map, HNL.out.1]⟩)
 have HNP := Lib.hid (And.intro hNP (And.intro hcP hcPM))
 have HB3 := Lib.hid hb3
 have HPF := Lib.hid (lawPast AL nl cL L false w3 (HN3.out.below hb3) HNL.out.1 (by omega))
 clear hNP hcP hcPM hb3 hP
 go_wp2_with fail
 refine HPF.out.mono ?_
 rintro e w4 ⟨AF, cF, rfl, hNF, hcF, hcFM, hb4⟩
 rw [List.length_map, HNL.out.1] at hcF ⊢
 obtain ⟨F, hF⟩ : ∃ F, L.map (reKind (pastG false)) = F := ⟨_, rfl⟩
 rw [hF] at hNF
 have HF := Lib.hid hF
 have HFF := Lib.hid (show Tree.formL F = true ∧ F.length = nl from ⟨by rw [← hF]; exact past_form HG.out.1 false, by rw [← hF, List.length_map, HNL.out.1]⟩)
 have HNF := Lib.hid (And.intro hNF (And.intro hcF hcFM))
 have hb34 := HB3.out.trans (hb4.mono HB3.out.size)
 have HB4 := Lib.hid hb34
 have HNP4 := Lib.hid (HNP.out.1.below hb4)
 have HT4 := Lib.hid (HT3.out.below hb34)
 have y0 := below_cell hb34 x0
 have y1 := below_cell hb34 x1
 have hA1 := fun V (hb : Below w4.heap.size w4 V) => landAll NU un uc EU ue uk T AP nl cP P V (HT4.out.below hb) (HNP4.out.below hb) HFP.out.2 HNP.out.2 (by omega) (by omega)
 have hA2 := fun V (hb : Below w4.heap.size w4 V) => landAll NU un uc EU ue uk T AF nl cF F V (HT4.out.below hb) (HNF.out.1.below hb) HFF.out.2 HNF.out.2 (by omega) (by omega)
 rw [HMT.out, HFP.out.1, Bool.and_true] at hA1
 rw [HMT.out, HFF.out.1, Bool.and_true] at hA2
 have HA1 := Lib.hid hA1
 have HA2 := Lib.hid hA2
 clear hNF hcF hcFM hb4 hb34 hF x0 x1 hA1 hA2
 go_wp2_with fail
 refine wp_region_held_drew (S := fun V => (V.cell? ⟨g, 0, none⟩ = some (.slice NU un uc) ∧ V.cell? ⟨g, 1, none⟩ = some (.slice EU ue uk)) ∧ Below w4.heap.size w4 V) (by kernel_rfl) ⟨⟨y0, y1⟩, (Below.refl _ _).drew⟩ (fun hHeld => ?_)
 refine tkOp 0 hHeld ?_
 refine tkOp 1 hHeld ?_
 refine tkOp 3 hHeld ?_
 refine tkOp 4 hHeld ?_
 refine tkCall 2 (fun Kt hKt => ?_)
 go_simp
 (go_at_call 9; refine (HA1.out _ hHeld.2).mono ?_; rintro e w5 ⟨hb5, he⟩; rw [if_pos trivial] at he; obtain ⟨b1, rfl, ho1⟩ := he; have hB5 := hHeld.2.trans (hb5.mono hHeld.2.size))
 refine hKt.out _ _ ?_ (fun hT => ?_)
 · (exact ⟨⟨below_cell hb5 hHeld.1.1, below_cell hb5 hHeld.1.2⟩, hB5⟩)
 clear hKt Kt hHeld
 have hHeld := hT
 clear hT
 try simp only [Act.put, tkA, tkB, tkC]
 refine tkCall 5 (fun Kt hKt => ?_)
 go_simp
 (go_at_call 9; refine (HA2.out _ hHeld.2).mono ?_; rintro e w6 ⟨hb6, he⟩; rw [if_pos trivial] at he; obtain ⟨b2, rfl, ho2⟩ := he; have hB6 := hHeld.2.trans (hb6.mono hHeld.2.size))
 refine hKt.out _ _ ?_ (fun hT => ?_)
 · (exact ⟨⟨below_cell hb6 hHeld.1.1, below_cell hb6 hHeld.1.2⟩, hB6⟩)
 clear hKt Kt hHeld
 have hHeld := hT
 clear hT
 try simp only [Act.put, tkA, tkB, tkC]
 refine tkOp 6 hHeld ?_
 refine tkOp 7 hHeld ?_
 refine wpAnyH_done (by kernel_rfl) ?_ _
 have z0 := hHeld.1.1
 have z1 := hHeld.1.2
 have HB6 := Lib.hid hHeld.2
 have HO1 := Lib.hid (ho1.rb.below hb6)
 have HO2 := Lib.hid ho2.rb
 clear hHeld ho1 ho2 hb5 hb6 hB5 hB6 y0 y1
 obtain ⟨VE, hVE⟩ : ∃ VE, Mem.fromAddr EU uk k 2 = VE := ⟨_, rfl⟩
 obtain ⟨nr, hnr⟩ : ∃ nr, ue - k = nr := ⟨_, rfl⟩
 obtain ⟨cr, hcr⟩ : ∃ cr, uk - k = cr := ⟨_, rfl⟩
 have hslE := fun W => Mem.slice_from (P := Tryz.prog) 23 (by kernel_rfl) 2 (by kernel_rfl) EU ue uk k hke W
 rw [hVE, hnr, hcr] at hslE
 have HTD := Lib.hid (show TrOk Any w4 NU un uc VE nr cr (dropT T k) from by rw [← hVE, ← hnr, ← hcr]; exact TrOk.drop HT4.out hke)
 have HNR := Lib.hid hnr
 go_wp2_with fail
 refine wp_region_held_drew (S := fun V => V.cell? ⟨g, 0, none⟩ = some (.slice NU un uc) ∧ V.cell? ⟨g, 1, none⟩ = some (.slice EU ue uk)) (by kernel_rfl) ⟨z0, z1⟩ (fun hHeld => ?_)
 refine tkOp 0 hHeld ?_
 refine tkOp 1 hHeld ?_
 refine tkOp 2 hHeld ?_
 refine tkOp 3 hHeld ?_
 refine tkOp 4 hHeld ?_
 refine tkOp 5 hHeld ?_
 refine tkOp 6 hHeld ?_
 refine tkCall 7 (fun Kt hKt => ?_)
 go_simp
 refine hKt.out _ _ ?_ (fun hT => ?_)
 · (exact ⟨below_cell ((Below.refl _ _).alloc (Nat.le_refl _) _) hHeld.1, below_cell ((Below.refl _ _).alloc (Nat.le_refl _) _) hHeld.2⟩)
 clear hKt Kt hHeld
 have hHeld := hT
 clear hT
 try simp only [Act.put, tkA, tkB, tkC]
 refine tkCall 8 (fun Kt hKt => ?_)
 go_simp
 refine hKt.out _ _ ?_ (fun hT => ?_)
 · (exact ⟨below_cell (((Below.refl _ _).alloc (Nat.le_refl _) _).drew) z0, below_cell (((Below.refl _ _).alloc (Nat.le_refl _) _).drew) z1⟩)
 clear hKt Kt hHeld
 have hHeld := hT
 clear hT
 try simp only [Act.put, tkA, tkB, tkC]
 refine wpAnyH_done (by kernel_rfl) ?_ _
 clear hHeld
 obtain ⟨g2, hg2⟩ : ∃ g2, w6.heap.size = g2 := ⟨_, rfl⟩
 obtain ⟨W7, hW7⟩ : ∃ W7, (w6.alloc (.cells #[.slice NU un uc, .slice VE nr cr] 25)).drew = W7 := ⟨_, rfl⟩
 have hb7 : Below w6.heap.size w6 W7 := by rw [← hW7]; exact ((Below.refl _ _).alloc (Nat.le_refl _) _).drew
 have v0 : W7.cell? ⟨g2, 0, none⟩ = some (.slice NU un uc) := by rw [← hW7, ← hg2]; exact box_cell (w := w6) 0 _ rfl
 have v1 : W7.cell? ⟨g2, 1, none⟩ = some (.slice VE nr cr) := by rw [← hW7, ← hg2]; exact box_cell (w := w6) 1 _ rfl
 have t0 := below_cell hb7 z0
 have t1 := below_cell hb7 z1
 have HB7 := Lib.hid (HB6.out.trans (hb7.mono HB6.out.size))
 have HC1 := Lib.hid (HO1.out.below hb7)
 have HC2 := Lib.hid (HO2.out.below hb7)
 rw [hW7, hg2]
 clear hb7 hg2 hW7 z0 z1
 have hne : ¬ (ue ≠ ue) := fun h => h rfl
 have hC := fun V (hb : Below w4.heap.size w4 V) => landCut NU un uc EU ue uk T (k : Int) V (HT4.out.below hb) HST.out ⟨by omega, by omega⟩
 have HC := Lib.hid hC
 clear hC
 have hsl1 := fun W => Mem.slice_upto (P := Tryz.prog) 32 (by kernel_rfl) 1 (by kernel_rfl) (some ⟨b1, 0, none⟩) ue ue k hke W
 obtain ⟨o2, ho2, hoc⟩ : ∃ o2, Mem.fromAddr (some ⟨b2, 0, none⟩) ue k 1 = some ⟨b2, o2, none⟩ ∧ (0 < nr → o2 = k) := by
   unfold Mem.fromAddr
   by_cases e : ue = k
   · exact ⟨0, if_pos e, fun h => by have := HNR.out; omega⟩
   · refine ⟨k, ?_, fun _ => rfl⟩
     rw [if_neg e]
     show some ((⟨b2, 0, none⟩ : Addr).add (k * 1)) = _
     rw [Addr.add_lit, Nat.zero_add, Nat.mul_one]
 have hsl2 := fun W => Mem.slice_from (P := Tryz.prog) 32 (by kernel_rfl) 1 (by kernel_rfl) (some ⟨b2, 0, none⟩) ue ue k hke W
 rw [ho2, HNR.out] at hsl2
 have HO2K := Lib.hid hoc
 clear ho2 hoc
 have hcut := fun j (hj : j < k) => (show tb (cutT T k) P j = tb T P j from by rw [← HP.out]; exact tb_cut HMT.out (by rw [HL.out]; exact hke) hj L)
 have hdrop := fun j (hj : j < nr) => (show tb (dropT T k) F j = tb T F (j + k) from by rw [← HF.out]; exact tb_drop HMT.out (by rw [HL.out]; exact hke) (by rw [HL.out]; have := HNR.out; omega) L)
 have hnrk := HNR.out
 go_wp2_with fail
 refine wp_region_held_drew (S := fun V => ((V.cell? ⟨g, 0, none⟩ = some (.slice NU un uc) ∧ V.cell? ⟨g, 1, none⟩ = some (.slice EU ue uk)) ∧ V.cell? ⟨g2, 0, none⟩ = some (.slice NU un uc) ∧ V.cell? ⟨g2, 1, none⟩ = some (.slice VE nr cr)) ∧ Below W7.heap.size W7 V) (by kernel_rfl) ⟨⟨⟨t0, t1⟩, v0, v1⟩, (Below.refl _ _).drew⟩ (fun hHeld => ?_)
 refine tkOp 0 hHeld ?_
 refine tkOp 1 hHeld ?_
 refine tkOp 3 hHeld ?_
 refine tkOp 5 hHeld ?_
 refine tkOp 6 hHeld ?_
 refine tkOp 7 hHeld ?_
 refine tkCall 2 (fun Kt hKt => ?_)
 go_simp
 (go_at_call 15; refine (HC.out _ (w47 HB7.out hHeld.2)).mono ?_; rintro e w8 ⟨NC, kc, cc, EC, mc, dc, rfl, hTC, hb8⟩; obtain rfl : k = mc := (by rw [← hTC.elen]; exact (cutT_len HMT.out (by rw [HL.out]; exact hke)).symm); have hB8 := hHeld.2.trans (hb8.mono hHeld.2.size))
 refine hKt.out _ _ ?_ (fun hT => ?_)
 · (exact ⟨keep4 (p := ⟨g, 0, none⟩) (q := ⟨g, 1, none⟩) (r := ⟨g2, 0, none⟩) (s := ⟨g2, 1, none⟩) hb8 hHeld.1, hB8⟩)
 clear hKt Kt hHeld
 have hHeld := hT
 clear hT
 try simp only [Act.put, tkA, tkB, tkC]
 refine tkCall 4 (fun Kt hKt => ?_)
 go_simp
 (go_at_call 9; refine (landAll NC kc cc EC k dc (cutT T k) AP nl cP P _ hTC (HNP4.out.below (w47 HB7.out hHeld.2)) HFP.out.2 HNP.out.2 (by omega) (by omega)).mono ?_; rintro e w9 ⟨hb9, he⟩; rw [cut_may _ _ HMT.out, HFP.out.1, if_pos (by decide)] at he; obtain ⟨b3, rfl, ho3⟩ := he; have hB9 := hHeld.2.trans (hb9.mono hHeld.2.size))
 refine hKt.out _ _ ?_ (fun hT => ?_)
 · (exact ⟨keep4 (p := ⟨g, 0, none⟩) (q := ⟨g, 1, none⟩) (r := ⟨g2, 0, none⟩) (s := ⟨g2, 1, none⟩) hb9 hHeld.1, hB9⟩)
 clear hKt Kt hHeld
 have hHeld := hT
 clear hT
 try simp only [Act.put, tkA, tkB, tkC]
 refine tkCall 8 (fun Kt hKt => ?_)
 go_simp
 (go_at_call 8; refine (eqBools b3 0 k b1 0 ue k (tb T P) _ (by omega) (fun j hj => by rw [Nat.zero_add, ho3.rb j hj, hcut j hj]) (fun j hj => by rw [Nat.zero_add]; exact HC1.out.below hHeld.2 j (by omega))).mono ?_; rintro e wa ⟨rfl, hba⟩; have hBa := hHeld.2.trans (hba.mono hHeld.2.size))
 refine hKt.out _ _ ?_ (fun hT => ?_)
 · (exact ⟨keep4 (p := ⟨g, 0, none⟩) (q := ⟨g, 1, none⟩) (r := ⟨g2, 0, none⟩) (s := ⟨g2, 1, none⟩) hba hHeld.1, hBa⟩)
 clear hKt Kt hHeld
 have hHeld := hT
 clear hT
 try simp only [Act.put, tkA, tkB, tkC]
 refine tkOp 9 hHeld ?_
 refine tkOp 10 hHeld ?_
 refine tkOp 11 hHeld ?_
 refine tkOp 13 hHeld ?_
 refine tkOp 14 hHeld ?_
 refine tkOp 15 hHeld ?_
 refine tkCall 12 (fun Kt hKt => ?_)
 go_simp
 (go_at_call 9; refine (landAll NU un uc VE nr cr (dropT T k) AF nl cF F _ (HTD.out.below (w47 HB7.out hHeld.2)) (HNF.out.1.below (w47 HB7.out hHeld.2)) HFF.out.2 HNF.out.2 (by omega) (by omega)).mono ?_; rintro e wb ⟨hbb, he⟩; rw [drop_may HMT.out k, HFF.out.1, if_pos (by decide)] at he; obtain ⟨b4, rfl, ho4⟩ := he; have hBb := hHeld.2.trans (hbb.mono hHeld.2.size))
 refine hKt.out _ _ ?_ (fun hT => ?_)
 · (exact ⟨keep4 (p := ⟨g, 0, none⟩) (q := ⟨g, 1, none⟩) (r := ⟨g2, 0, none⟩) (s := ⟨g2, 1, none⟩) hbb hHeld.1, hBb⟩)
 clear hKt Kt hHeld
 have hHeld := hT
 clear hT
 try simp only [Act.put, tkA, tkB, tkC]
 refine tkCall 16 (fun Kt hKt => ?_)
 go_simp
 (go_at_call 8; refine (eqBools b4 0 nr b2 o2 nr nr (tb (dropT T k) F) _ (by omega) (fun j hj => by rw [Nat.zero_add]; exact ho4.rb j hj) (fun j hj => by rw [HO2K.out (by omega), Nat.add_comm k j, hdrop j hj]; exact HC2.out.below hHeld.2 (j + k) (by omega))).mono ?_; rintro e wc ⟨rfl, hbc⟩; have hBc := hHeld.2.trans (hbc.mono hHeld.2.size))
 refine hKt.out _ _ ?_ (fun hT => ?_)
 · (exact ⟨keep4 (p := ⟨g, 0, none⟩) (q := ⟨g, 1, none⟩) (r := ⟨g2, 0, none⟩) (s := ⟨g2, 1, none⟩) hbc hHeld.1, hBc⟩)
 clear hKt Kt hHeld
 have hHeld := hT
 clear hT
 try simp only [Act.put, tkA, tkB, tkC]
 refine tkOp 17 hHeld ?_
 refine tkOp 18 hHeld ?_
 refine tkCall 19 (fun Kt hKt => ?_)
 go_simp
 (go_at_call 6; refine (awake _).mono ?_; rintro e wd ⟨rfl, hbd⟩; have hBd := hHeld.2.trans (hbd.mono hHeld.2.size))
 refine hKt.out _ _ ?_ (fun hT => ?_)
 · (exact ⟨keep4 (p := ⟨g, 0, none⟩) (q := ⟨g, 1, none⟩) (r := ⟨g2, 0, none⟩) (s := ⟨g2, 1, none⟩) hbd hHeld.1, hBd⟩)
 clear hKt Kt hHeld
 have hHeld := hT
 clear hT
 try simp only [Act.put, tkA, tkB, tkC]
 refine tkOp 20 hHeld ?_
 refine tkOp 21 hHeld ?_
 refine wpAnyH_done (by kernel_rfl) ?_ _
 have HZ := Lib.hid hHeld.2
 clear hHeld
 go_wp2_with fail
 go_ret
 have h4 := D3.out.trans (HB4.out.mono D3.out.size)
 have h5 := h4.trans (HB7.out.mono h4.size)
 exact ⟨rfl, h5.trans (HZ.out.mono h5.size)⟩
end Go.Proofs.YtdbgaccnejffpaaGreat.Sat
