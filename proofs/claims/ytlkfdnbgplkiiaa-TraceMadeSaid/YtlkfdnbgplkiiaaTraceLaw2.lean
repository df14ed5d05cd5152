/-
  The walk of the law TraceMade. Written by wip/tools/genmade8.py. By an AI agent.
-/
import Derived.Test.YtlkfdnbgplkiiaaTraceTells
import Derived.Test.YtlkfdnbgplkiiaaTraceAwake
import Derived.Test.YtlkfdnbgplkiiaaTraceTake
namespace Go.Proofs.Ytlkfdnbgplkiiaa.Trace
open Go.RowKit Go.Proofs.Ytlkfdnbgplkiiaa.Ints Go.Proofs.Ytlkfdnbgplkiiaa.Mem

theorem make_names (start : Int) (zs : List Int) : (makeM start zs).names = [[112], [113], [114]] := rfl
theorem made_idx : ∀ id, id < 3 → ([[112], [113], [114]] : List (List UInt8)).getD id [] ∈ ([[112], [113], [114]] : List (List UInt8)) ∧ ([[112], [113], [114]] : List (List UInt8)).idxOf (([[112], [113], [114]] : List (List UInt8)).getD id []) = id := by decide
theorem made_holds {t : Tr} (h : mayT t = true) (hn : t.names = [[112], [113], [114]]) {k id : Nat} (hk : k < t.events.length) (hi : id < 3) : holdsT t (k : Int) (t.names.getD id []) = decide (((id : Nat) : Int) ∈ (t.events.getD k noEv).ids) := by
  obtain ⟨h1, h2⟩ := made_idx id hi
  unfold holdsT
  rw [h, hn, h2, decide_eq_true h1, decide_eq_true (show (0 : Int) ≤ (k : Int) ∧ (k : Int) < (t.events.length : Int) by omega), Int.toNat_natCast]
  rfl

set_option maxHeartbeats 16000000 in
set_option maxRecDepth 100000 in
theorem lawMade (start : Int) (A : Option Addr) (n c : Nat) (zs : List Int) (B : Option Addr) (m d : Nat) (ys : List Int) (i : Int) (s : ByteArray) (w : World) (h0 : 0 ≤ start ∧ start ≤ 18446744073709551615) (hr : Rd .u16 w A n zs) (hc : n ≤ maxLen) (hr2 : Rd .u16 w B m ys) (hc2 : m ≤ maxLen) (hi : small64 i) :
    Calls Try.prog 4 #[.int .u64 start, .slice A n c, .slice B m d, .int .i64 i, .string s] w fun e w' => e = .returned (.bool true) ∧ Below w.heap.size w w' := by
  have HA := Lib.hid (fun W => awake W)
  have hx : maxLen = 9223372036854775807 := rfl
  have hn64 : (n : Int) ≤ 9223372036854775807 := by omega
  have HMK1 := Lib.hid (lawMake start A n c zs w h0 hr hc)
  have HMK2 := Lib.hid (fun W (hb : Below w.heap.size w W) => lawMake start B m d ys W h0 (hr2.below hb) hc2)
  obtain ⟨M, hM⟩ : ∃ M, makeM start zs = M := ⟨_, rfl⟩
  obtain ⟨U, hU⟩ : ∃ U, makeM start ys = U := ⟨_, rfl⟩
  have hmay : mayT M = true := by rw [← hM]; exact make_may zs (fun z hz => (wf_u16 (hr.all z hz)).1)
  have HNM := Lib.hid (show M.names = [[112], [113], [114]] by rw [← hM]; rfl)
  have HSM := Lib.hid (show TrSmall M by rw [← hM]; exact make_trsmall zs)
  have HSU := Lib.hid (show TrSmall U by rw [← hU]; exact make_trsmall ys)
  have hl60 : M.events.length ≤ 60 := by rw [← hM]; exact (make_small start zs).1
  have HMAY := Lib.hid hmay
  rw [hM] at HMK1
  rw [hU] at HMK2
  obtain ⟨hs1, hs2⟩ := h0
  have HI := Lib.hid hi
  obtain ⟨hi1, hi2⟩ := hi
  clear hM hU hr hc hr2 hc2 hx hmay
  go_enter Try.func4, Try.ntmps4
  go_wp2_with fail
  refine (HMK1.out).mono ?_
  rintro e w1 ⟨NU, un, uc, EU, ue, uk, rfl, hTU, hb1⟩
  have D1 := Lib.hid hb1
  have HT1 := Lib.hid hTU
  have hue : ue ≤ 60 := by rw [← hTU.elen]; exact hl60
  have HL := Lib.hid hTU.elen
  have hun : un = 3 := by rw [← hTU.nlen, HNM.out]; rfl
  subst hun
  clear hTU hb1
  go_wp2_with fail
  refine (HMK2.out _ D1.out).mono ?_
  rintro e w2 ⟨NV, vn, vc, EV, ve, vk, rfl, hTV, hb2⟩
  have D2 := Lib.hid (D1.out.trans (hb2.mono D1.out.size))
  obtain ⟨g, hg⟩ : ∃ g, w2.heap.size = g := ⟨_, rfl⟩
  obtain ⟨X, hX⟩ : ∃ X, (w2.alloc (.cells #[.slice NU 3 uc, .slice EU ue uk] 26)).alloc (.cells #[.slice NV vn vc, .slice EV ve vk] 26) = X := ⟨_, rfl⟩
  have h2X : Below w2.heap.size w2 X := by rw [← hX]; exact ((Below.refl _ _).alloc (Nat.le_refl _) _).alloc (by simp) _
  have e1 : (w2.alloc (.cells #[.slice NU 3 uc, .slice EU ue uk] 26)).heap.size = g + 1 := by rw [← hg]; simp
  have x0 : X.cell? ⟨g, 0, none⟩ = some (.slice NU 3 uc) := by rw [← hX, ← hg]; exact Lib.cell?_alloc_marked _ (box_cell 0 _ rfl)
  have x1 : X.cell? ⟨g, 1, none⟩ = some (.slice EU ue uk) := by rw [← hX, ← hg]; exact Lib.cell?_alloc_marked _ (box_cell 1 _ rfl)
  have x2 : X.cell? ⟨g + 1, 0, none⟩ = some (.slice NV vn vc) := by rw [← hX, ← e1]; exact box_cell 0 _ rfl
  have x3 : X.cell? ⟨g + 1, 1, none⟩ = some (.slice EV ve vk) := by rw [← hX, ← e1]; exact box_cell 1 _ rfl
  have HS := Lib.hid (show ∀ W, Below X.heap.size X W → W.cell? ⟨g, 0, none⟩ = some (.slice NU 3 uc) ∧ W.cell? ⟨g, 1, none⟩ = some (.slice EU ue uk) ∧ W.cell? ⟨g + 1, 0, none⟩ = some (.slice NV vn vc) ∧ W.cell? ⟨g + 1, 1, none⟩ = some (.slice EV ve vk) ∧ Below X.heap.size X W from fun W hb => ⟨below_cell hb x0, below_cell hb x1, below_cell hb x2, below_cell hb x3, hb⟩)
  have DX := Lib.hid (D2.out.trans (h2X.mono D2.out.size))
  have HTM := Lib.hid ((HT1.out.below hb2).below h2X)
  have HTV := Lib.hid (hTV.below h2X)
  have PM := fun W (hb : Below X.heap.size X W) => landMay NU 3 uc EU ue uk M W (HTM.out.below hb)
  rw [HMAY.out] at PM
  have PM := Lib.hid PM
  have PT1 := Lib.hid (fun W (hb : Below X.heap.size X W) => lawTells NU 3 uc EU ue uk NV vn vc EV ve vk M U i s W (HTM.out.below hb) (HTV.out.below hb) HSM.out HSU.out HI.out)
  have PT2 := Lib.hid (fun W (hb : Below X.heap.size X W) => lawTells NU 3 uc EU ue uk NU 3 uc EU ue uk M M i ⟨#[112]⟩ W (HTM.out.below hb) (HTM.out.below hb) HSM.out HSM.out HI.out)
  have PC := Lib.hid (fun W (hb : Below X.heap.size X W) => landCut NU 3 uc EU ue uk M i W (HTM.out.below hb) HSM.out HI.out)
  have PT3 := Lib.hid (fun (N4 : Option Addr) (n4 c4 : Nat) (E4 : Option Addr) (m4 d4 : Nat) W (h4 : TrOk Any W N4 n4 c4 E4 m4 d4 (cutT M i)) (hb : Below X.heap.size X W) => lawTells N4 n4 c4 E4 m4 d4 NU 3 uc EU ue uk (cutT M i) M ((n : Int) - 1) ⟨#[113]⟩ W h4 (HTM.out.below hb) (HSM.out.cut i) HSM.out ⟨by omega, by omega⟩)
  have hsub : IntKind.i64.wrap ((n : Int) - 1) = (n : Int) - 1 := IntWalk.i64_in _ (by omega)
  clear hTV hb2 h2X e1 x0 x1 x2 x3
  go_wp2_with fail
  clear hX
  refine wp_region_held_drew (S := (fun W => W.cell? ⟨g, 0, none⟩ = some (.slice NU 3 uc) ∧ W.cell? ⟨g, 1, none⟩ = some (.slice EU ue uk) ∧ W.cell? ⟨g + 1, 0, none⟩ = some (.slice NV vn vc) ∧ W.cell? ⟨g + 1, 1, none⟩ = some (.slice EV ve vk) ∧ Below X.heap.size X W)) (by kernel_rfl) (HS.out _ (Below.refl _ _).drew) (fun hHeld => ?_)
  refine wpAnyH_take (i := 0) (oi := ?tko1) (v := ?tkv1) ?tkh1 (by kernel_rfl) (by kernel_rfl) (by kernel_rfl) ?tkq1 ?tky1 hHeld ?tkr1
  case tkh1 => (simp only [List.getElem?_toArray, List.getElem?_cons_zero]; rfl)
  case tkq1 => exact fun _ _ _ h => h
  case tky1 => exact Or.inl ⟨by rfl, by intro wSw hSw; (try dsimp only at hSw); go_simp; try with_reducible rfl⟩
  try simp only [Act.put, List.setIfInBounds_toArray, List.set_cons_zero, List.set_cons_succ]
  refine wpAnyH_ready (rs := [1]) (by kernel_rfl) (by simp) ?_
  refine AllReadyH.cons (o := ?tko2) ?tkh2 (fun Kt2 hKt2 => ?_) AllReadyH.nil
  case tkh2 => (simp only [List.getElem?_toArray, List.getElem?_cons_succ, List.getElem?_cons_zero]; rfl)
  go_simp
  (go_at_call 16; refine (PM.out _ (Below.refl _ _).drew).mono ?_; rintro e y1 ⟨rfl, hb1⟩; have hB1 := undrew1 hb1)
  refine hKt2.out _ _ ?_ (fun hHt2 => ?_)
  · (exact HS.out _ hB1)
  clear hKt2 Kt2 hHeld
  have hHeld := hHt2
  clear hHt2
  try simp only [Act.put, List.setIfInBounds_toArray, List.set_cons_zero, List.set_cons_succ]
  refine wpAnyH_take (i := 2) (oi := ?tko3) (v := ?tkv3) ?tkh3 (by kernel_rfl) (by kernel_rfl) (by kernel_rfl) ?tkq3 ?tky3 hHeld ?tkr3
  case tkh3 => (simp only [List.getElem?_toArray, List.getElem?_cons_succ, List.getElem?_cons_zero]; rfl)
  case tkq3 => exact fun _ _ _ h => h
  case tky3 => exact Or.inl ⟨by rfl, by intro wSw hSw; (try dsimp only at hSw); go_simp; try with_reducible rfl⟩
  try simp only [Act.put, List.setIfInBounds_toArray, List.set_cons_zero, List.set_cons_succ]
  refine wpAnyH_take (i := 3) (oi := ?tko4) (v := ?tkv4) ?tkh4 (by kernel_rfl) (by kernel_rfl) (by kernel_rfl) ?tkq4 ?tky4 hHeld ?tkr4
  case tkh4 => (simp only [List.getElem?_toArray, List.getElem?_cons_succ, List.getElem?_cons_zero]; rfl)
  case tkq4 => exact fun _ _ _ h => h
  case tky4 => exact Or.inl ⟨by rfl, by intro wSw hSw; (try dsimp only at hSw); go_simp; try with_reducible rfl⟩
  try simp only [Act.put, List.setIfInBounds_toArray, List.set_cons_zero, List.set_cons_succ]
  refine wpAnyH_take (i := 4) (oi := ?tko5) (v := ?tkv5) ?tkh5 (by kernel_rfl) (by kernel_rfl) (by kernel_rfl) ?tkq5 ?tky5 hHeld ?tkr5
  case tkh5 => (simp only [List.getElem?_toArray, List.getElem?_cons_succ, List.getElem?_cons_zero]; rfl)
  case tkq5 => exact fun _ _ _ h => h
  case tky5 => exact Or.inl ⟨by rfl, by intro wSw hSw; (try dsimp only at hSw); go_simp; try with_reducible rfl⟩
  try simp only [Act.put, List.setIfInBounds_toArray, List.set_cons_zero, List.set_cons_succ]
  refine wpAnyH_take (i := 5) (oi := ?tko6) (v := ?tkv6) ?tkh6 (by kernel_rfl) (by kernel_rfl) (by kernel_rfl) ?tkq6 ?tky6 hHeld ?tkr6
  case tkh6 => (simp only [List.getElem?_toArray, List.getElem?_cons_succ, List.getElem?_cons_zero]; rfl)
  case tkq6 => exact fun _ _ _ h => h
  case tky6 => exact Or.inl ⟨by rfl, by intro wSw hSw; (try dsimp only at hSw); go_simp; try with_reducible rfl⟩
  try simp only [Act.put, List.setIfInBounds_toArray, List.set_cons_zero, List.set_cons_succ]
  refine wpAnyH_take (i := 6) (oi := ?tko7) (v := ?tkv7) ?tkh7 (by kernel_rfl) (by kernel_rfl) (by kernel_rfl) ?tkq7 ?tky7 hHeld ?tkr7
  case tkh7 => (simp only [List.getElem?_toArray, List.getElem?_cons_succ, List.getElem?_cons_zero]; rfl)
  case tkq7 => exact fun _ _ _ h => h
  case tky7 => exact Or.inl ⟨by rfl, by intro wSw hSw; (try dsimp only at hSw); go_simp; try with_reducible rfl⟩
  try simp only [Act.put, List.setIfInBounds_toArray, List.set_cons_zero, List.set_cons_succ]
  refine wpAnyH_take (i := 7) (oi := ?tko8) (v := ?tkv8) ?tkh8 (by kernel_rfl) (by kernel_rfl) (by kernel_rfl) ?tkq8 ?tky8 hHeld ?tkr8
  case tkh8 => (simp only [List.getElem?_toArray, List.getElem?_cons_succ, List.getElem?_cons_zero]; rfl)
  case tkq8 => exact fun _ _ _ h => h
  case tky8 => exact Or.inl ⟨by rfl, by intro wSw hSw; (try dsimp only at hSw); go_simp; try with_reducible rfl⟩
  try simp only [Act.put, List.setIfInBounds_toArray, List.set_cons_zero, List.set_cons_succ]
  refine wpAnyH_ready (rs := [8]) (by kernel_rfl) (by simp) ?_
  refine AllReadyH.cons (o := ?tko9) ?tkh9 (fun Kt9 hKt9 => ?_) AllReadyH.nil
  case tkh9 => (simp only [List.getElem?_toArray, List.getElem?_cons_succ, List.getElem?_cons_zero]; rfl)
  go_simp
  (go_at_call 14; refine (PT1.out _ hB1).mono ?_; rintro e y2 ⟨rfl, hb2⟩; have hB2 := hB1.trans (hb2.mono hB1.size))
  refine hKt9.out _ _ ?_ (fun hHt9 => ?_)
  · (exact HS.out _ hB2)
  clear hKt9 Kt9 hHeld
  have hHeld := hHt9
  clear hHt9
  try simp only [Act.put, List.setIfInBounds_toArray, List.set_cons_zero, List.set_cons_succ]
  refine wpAnyH_take (i := 9) (oi := ?tko10) (v := ?tkv10) ?tkh10 (by kernel_rfl) (by kernel_rfl) (by kernel_rfl) ?tkq10 ?tky10 hHeld ?tkr10
  case tkh10 => (simp only [List.getElem?_toArray, List.getElem?_cons_succ, List.getElem?_cons_zero]; rfl)
  case tkq10 => exact fun _ _ _ h => h
  case tky10 => exact Or.inl ⟨by rfl, by intro wSw hSw; (try dsimp only at hSw); go_simp; try with_reducible rfl⟩
  try simp only [Act.put, List.setIfInBounds_toArray, List.set_cons_zero, List.set_cons_succ]
  refine wpAnyH_take (i := 10) (oi := ?tko11) (v := ?tkv11) ?tkh11 (by kernel_rfl) (by kernel_rfl) (by kernel_rfl) ?tkq11 ?tky11 hHeld ?tkr11
  case tkh11 => (simp only [List.getElem?_toArray, List.getElem?_cons_succ, List.getElem?_cons_zero]; rfl)
  case tkq11 => exact fun _ _ _ h => h
  case tky11 => exact Or.inl ⟨by rfl, by intro wSw hSw; (try dsimp only at hSw); go_simp; try with_reducible rfl⟩
  try simp only [Act.put, List.setIfInBounds_toArray, List.set_cons_zero, List.set_cons_succ]
  refine wpAnyH_take (i := 11) (oi := ?tko12) (v := ?tkv12) ?tkh12 (by kernel_rfl) (by kernel_rfl) (by kernel_rfl) ?tkq12 ?tky12 hHeld ?tkr12
  case tkh12 => (simp only [List.getElem?_toArray, List.getElem?_cons_succ, List.getElem?_cons_zero]; rfl)
  case tkq12 => exact fun _ _ _ h => h
  case tky12 => exact Or.inl ⟨by rfl, by intro wSw hSw; (try dsimp only at hSw); go_simp; try with_reducible rfl⟩
  try simp only [Act.put, List.setIfInBounds_toArray, List.set_cons_zero, List.set_cons_succ]
  refine wpAnyH_take (i := 12) (oi := ?tko13) (v := ?tkv13) ?tkh13 (by kernel_rfl) (by kernel_rfl) (by kernel_rfl) ?tkq13 ?tky13 hHeld ?tkr13
  case tkh13 => (simp only [List.getElem?_toArray, List.getElem?_cons_succ, List.getElem?_cons_zero]; rfl)
  case tkq13 => exact fun _ _ _ h => h
  case tky13 => exact Or.inl ⟨by rfl, by intro wSw hSw; (try dsimp only at hSw); go_simp; try with_reducible rfl⟩
  try simp only [Act.put, List.setIfInBounds_toArray, List.set_cons_zero, List.set_cons_succ]
  refine wpAnyH_take (i := 13) (oi := ?tko14) (v := ?tkv14) ?tkh14 (by kernel_rfl) (by kernel_rfl) (by kernel_rfl) ?tkq14 ?tky14 hHeld ?tkr14
  case tkh14 => (simp only [List.getElem?_toArray, List.getElem?_cons_succ, List.getElem?_cons_zero]; rfl)
  case tkq14 => exact fun _ _ _ h => h
  case tky14 => exact Or.inl ⟨by rfl, by intro wSw hSw; (try dsimp only at hSw); go_simp; try with_reducible rfl⟩
  try simp only [Act.put, List.setIfInBounds_toArray, List.set_cons_zero, List.set_cons_succ]
  refine wpAnyH_take (i := 14) (oi := ?tko15) (v := ?tkv15) ?tkh15 (by kernel_rfl) (by kernel_rfl) (by kernel_rfl) ?tkq15 ?tky15 hHeld ?tkr15
  case tkh15 => (simp only [List.getElem?_toArray, List.getElem?_cons_succ, List.getElem?_cons_zero]; rfl)
  case tkq15 => exact fun _ _ _ h => h
  case tky15 => exact Or.inl ⟨by rfl, by intro wSw hSw; (try dsimp only at hSw); go_simp; try with_reducible rfl⟩
  try simp only [Act.put, List.setIfInBounds_toArray, List.set_cons_zero, List.set_cons_succ]
  refine wpAnyH_ready (rs := [15]) (by kernel_rfl) (by simp) ?_
  refine AllReadyH.cons (o := ?tko16) ?tkh16 (fun Kt16 hKt16 => ?_) AllReadyH.nil
  case tkh16 => (simp only [List.getElem?_toArray, List.getElem?_cons_succ, List.getElem?_cons_zero]; rfl)
  go_simp
  (go_at_call 14; refine (PT2.out _ hB2).mono ?_; rintro e y3 ⟨rfl, hb3⟩; have hB3 := hB2.trans (hb3.mono hB2.size))
  refine hKt16.out _ _ ?_ (fun hHt16 => ?_)
  · (exact HS.out _ hB3)
  clear hKt16 Kt16 hHeld
  have hHeld := hHt16
  clear hHt16
  try simp only [Act.put, List.setIfInBounds_toArray, List.set_cons_zero, List.set_cons_succ]
  refine wpAnyH_take (i := 16) (oi := ?tko17) (v := ?tkv17) ?tkh17 (by kernel_rfl) (by kernel_rfl) (by kernel_rfl) ?tkq17 ?tky17 hHeld ?tkr17
  case tkh17 => (simp only [List.getElem?_toArray, List.getElem?_cons_succ, List.getElem?_cons_zero]; rfl)
  case tkq17 => exact fun _ _ _ h => h
  case tky17 => exact Or.inl ⟨by rfl, by intro wSw hSw; (try dsimp only at hSw); go_simp; try with_reducible rfl⟩
  try simp only [Act.put, List.setIfInBounds_toArray, List.set_cons_zero, List.set_cons_succ]
  refine wpAnyH_take (i := 17) (oi := ?tko18) (v := ?tkv18) ?tkh18 (by kernel_rfl) (by kernel_rfl) (by kernel_rfl) ?tkq18 ?tky18 hHeld ?tkr18
  case tkh18 => (simp only [List.getElem?_toArray, List.getElem?_cons_succ, List.getElem?_cons_zero]; rfl)
  case tkq18 => exact fun _ _ _ h => h
  case tky18 => exact Or.inl ⟨by rfl, by intro wSw hSw; (try dsimp only at hSw); go_simp; try with_reducible rfl⟩
  try simp only [Act.put, List.setIfInBounds_toArray, List.set_cons_zero, List.set_cons_succ]
  refine wpAnyH_take (i := 18) (oi := ?tko19) (v := ?tkv19) ?tkh19 (by kernel_rfl) (by kernel_rfl) (by kernel_rfl) ?tkq19 ?tky19 hHeld ?tkr19
  case tkh19 => (simp only [List.getElem?_toArray, List.getElem?_cons_succ, List.getElem?_cons_zero]; rfl)
  case tkq19 => exact fun _ _ _ h => h
  case tky19 => exact Or.inl ⟨by rfl, by intro wSw hSw; (try dsimp only at hSw); go_simp; try with_reducible rfl⟩
  try simp only [Act.put, List.setIfInBounds_toArray, List.set_cons_zero, List.set_cons_succ]
  refine wpAnyH_take (i := 19) (oi := ?tko20) (v := ?tkv20) ?tkh20 (by kernel_rfl) (by kernel_rfl) (by kernel_rfl) ?tkq20 ?tky20 hHeld ?tkr20
  case tkh20 => (simp only [List.getElem?_toArray, List.getElem?_cons_succ, List.getElem?_cons_zero]; rfl)
  case tkq20 => exact fun _ _ _ h => h
  case tky20 => exact Or.inl ⟨by rfl, by intro wSw hSw; (try dsimp only at hSw); go_simp; try with_reducible rfl⟩
  try simp only [Act.put, List.setIfInBounds_toArray, List.set_cons_zero, List.set_cons_succ]
  refine wpAnyH_take (i := 20) (oi := ?tko21) (v := ?tkv21) ?tkh21 (by kernel_rfl) (by kernel_rfl) (by kernel_rfl) ?tkq21 ?tky21 hHeld ?tkr21
  case tkh21 => (simp only [List.getElem?_toArray, List.getElem?_cons_succ, List.getElem?_cons_zero]; rfl)
  case tkq21 => exact fun _ _ _ h => h
  case tky21 => exact Or.inl ⟨by rfl, by intro wSw hSw; (try dsimp only at hSw); go_simp; try with_reducible rfl⟩
  try simp only [Act.put, List.setIfInBounds_toArray, List.set_cons_zero, List.set_cons_succ]
  refine wpAnyH_take (i := 22) (oi := ?tko22) (v := ?tkv22) ?tkh22 (by kernel_rfl) (by kernel_rfl) (by kernel_rfl) ?tkq22 ?tky22 hHeld ?tkr22
  case tkh22 => (simp only [List.getElem?_toArray, List.getElem?_cons_succ, List.getElem?_cons_zero]; rfl)
  case tkq22 => exact fun _ _ _ h => h
  case tky22 => exact Or.inl ⟨by rfl, by intro wSw hSw; (try dsimp only at hSw); go_simp; try with_reducible rfl⟩
  try simp only [Act.put, List.setIfInBounds_toArray, List.set_cons_zero, List.set_cons_succ]
  refine wpAnyH_take (i := 23) (oi := ?tko23) (v := ?tkv23) ?tkh23 (by kernel_rfl) (by kernel_rfl) (by kernel_rfl) ?tkq23 ?tky23 hHeld ?tkr23
  case tkh23 => (simp only [List.getElem?_toArray, List.getElem?_cons_succ, List.getElem?_cons_zero]; rfl)
  case tkq23 => exact fun _ _ _ h => h
  case tky23 => exact Or.inl ⟨by rfl, by intro wSw hSw; (try dsimp only at hSw); go_simp; try with_reducible rfl⟩
  try simp only [Act.put, List.setIfInBounds_toArray, List.set_cons_zero, List.set_cons_succ]
  refine wpAnyH_take (i := 24) (oi := ?tko24) (v := ?tkv24) ?tkh24 (by kernel_rfl) (by kernel_rfl) (by kernel_rfl) ?tkq24 ?tky24 hHeld ?tkr24
  case tkh24 => (simp only [List.getElem?_toArray, List.getElem?_cons_succ, List.getElem?_cons_zero]; rfl)
  case tkq24 => exact fun _ _ _ h => h
  case tky24 => exact Or.inl ⟨by rfl, by intro wSw hSw; (try dsimp only at hSw); go_simp; try with_reducible rfl⟩
  try simp only [Act.put, List.setIfInBounds_toArray, List.set_cons_zero, List.set_cons_succ]
  refine wpAnyH_take (i := 25) (oi := ?tko25) (v := ?tkv25) ?tkh25 (by kernel_rfl) (by kernel_rfl) (by kernel_rfl) ?tkq25 ?tky25 hHeld ?tkr25
  case tkh25 => (simp only [List.getElem?_toArray, List.getElem?_cons_succ, List.getElem?_cons_zero]; rfl)
  case tkq25 => exact fun _ _ _ h => h
  case tky25 => exact Or.inl ⟨by rfl, by intro wSw hSw; (try dsimp only at hSw); go_simp; try with_reducible rfl⟩
  try simp only [Act.put, List.setIfInBounds_toArray, List.set_cons_zero, List.set_cons_succ]
  refine wpAnyH_ready (rs := [21]) (by kernel_rfl) (by simp) ?_
  refine AllReadyH.cons (o := ?tko26) ?tkh26 (fun Kt26 hKt26 => ?_) AllReadyH.nil
  case tkh26 => (simp only [List.getElem?_toArray, List.getElem?_cons_succ, List.getElem?_cons_zero]; rfl)
  go_simp
  (go_at_call 17; refine (PC.out _ hB3).mono ?_; rintro e y4 ⟨N4, n4, c4, E4, m4, d4, rfl, hT4, hb4⟩; have hB4 := hB3.trans (hb4.mono hB3.size))
  refine hKt26.out _ _ ?_ (fun hHt26 => ?_)
  · (exact HS.out _ hB4)
  clear hKt26 Kt26 hHeld
  have hHeld := hHt26
  clear hHt26
  try simp only [Act.put, List.setIfInBounds_toArray, List.set_cons_zero, List.set_cons_succ]
  refine wpAnyH_ready (rs := [26]) (by kernel_rfl) (by simp) ?_
  refine AllReadyH.cons (o := ?tko27) ?tkh27 (fun Kt27 hKt27 => ?_) AllReadyH.nil
  case tkh27 => (simp only [List.getElem?_toArray, List.getElem?_cons_succ, List.getElem?_cons_zero]; rfl)
  go_simp
  (go_at_call 14; refine (PT3.out _ _ _ _ _ _ _ hT4 hB4).mono ?_; rintro e y5 ⟨rfl, hb5⟩; have hB5 := hB4.trans (hb5.mono hB4.size))
  refine hKt27.out _ _ ?_ (fun hHt27 => ?_)
  · (exact HS.out _ hB5)
  clear hKt27 Kt27 hHeld
  have hHeld := hHt27
  clear hHt27
  try simp only [Act.put, List.setIfInBounds_toArray, List.set_cons_zero, List.set_cons_succ]
  refine wpAnyH_take (i := 27) (oi := ?tko28) (v := ?tkv28) ?tkh28 (by kernel_rfl) (by kernel_rfl) (by kernel_rfl) ?tkq28 ?tky28 hHeld ?tkr28
  case tkh28 => (simp only [List.getElem?_toArray, List.getElem?_cons_succ, List.getElem?_cons_zero]; rfl)
  case tkq28 => exact fun _ _ _ h => h
  case tky28 => exact Or.inl ⟨by rfl, by intro wSw hSw; (try dsimp only at hSw); go_simp; try with_reducible rfl⟩
  try simp only [Act.put, List.setIfInBounds_toArray, List.set_cons_zero, List.set_cons_succ]
  refine wpAnyH_take (i := 28) (oi := ?tko29) (v := ?tkv29) ?tkh29 (by kernel_rfl) (by kernel_rfl) (by kernel_rfl) ?tkq29 ?tky29 hHeld ?tkr29
  case tkh29 => (simp only [List.getElem?_toArray, List.getElem?_cons_succ, List.getElem?_cons_zero]; rfl)
  case tkq29 => exact fun _ _ _ h => h
  case tky29 => exact Or.inl ⟨by rfl, by intro wSw hSw; (try dsimp only at hSw); go_simp; try with_reducible rfl⟩
  try simp only [Act.put, List.setIfInBounds_toArray, List.set_cons_zero, List.set_cons_succ]
  refine wpAnyH_done (by kernel_rfl) ?_ _
  obtain ⟨x0, x1, x2, x3, -⟩ := HS.out _ hB5
  have HB5 := Lib.hid hB5
  clear hB1 hB2 hB3 hB4 hB5 hb1 hb2 hb3 hb4 hb5 hT4 hHeld hsub
  go_wp2
  clear x0 x1 x2 x3
  have hei : (ue : Int) ≤ 60 := by omega
  go_loopw [55] (fun i wr => ∃ k : Nat, k ≤ ue ∧ i = .int .i64 k ∧ Below X.heap.size X wr) (fun i _ => ue - (intOf i).toNat)
  case atStart => exact ⟨0, Nat.zero_le _, rfl, HB5.out⟩
  case round =>
    obtain ⟨wo, hwo⟩ : ∃ wo : World, wo = wr := ⟨_, rfl⟩
    subst hwo
    obtain ⟨k, hk, rfl, hB⟩ := hrel
    have HB := Lib.hid hB
    clear hB
    by_cases hkn : k < ue
    · have hkn' : (k : Int) < (ue : Int) := by omega
      have hk0 : (0 : Int) ≤ (k : Int) := by omega
      have hkl : k < M.events.length := by rw [HL.out]; exact hkn
      have HKL := Lib.hid hkl
      obtain ⟨b, off, K, kc, e, v0, v1, hX⟩ := (HTM.out.below HB.out).evs.kids hkl
      obtain ⟨ev, hev⟩ : ∃ ev, M.events.getD k noEv = ev := ⟨_, rfl⟩
      rw [hev] at v0 v1 hX
      obtain ⟨tm, htm⟩ : ∃ tm, ev.time = tm := ⟨_, rfl⟩
      obtain ⟨q, hq⟩ : ∃ q, ev.ids.length = q := ⟨_, rfl⟩
      rw [htm] at v0
      rw [hq] at v1
      have HEV := Lib.hid hev
      have HQ := Lib.hid hq
      have HX := Lib.hid hX
      subst e
      obtain ⟨x0, x1, x2, x3, -⟩ := HS.out _ HB.out
      have a0 : ∀ o : Obj, (wo.alloc o).cell? ⟨g, 0, none⟩ = some (.slice NU 3 uc) := fun o => Lib.cell?_alloc_marked o x0
      clear hkl hX hev htm hq
      go_wp2
      have e0 : (wo.alloc (.cells #[.int .u64 tm, .slice K q kc] 39)).heap.size = wo.heap.size + 1 := by simp
      have HE0 := Lib.hid e0
      clear v0 v1 a0 x0 x1 x2 x3 e0
      go_loopw [63] (fun j wx => ∃ id : Nat, id ≤ 3 ∧ j = .int .i64 id ∧ Below (wo.heap.size + 1) (wo.alloc (.cells #[.int .u64 tm, .slice K q kc] 39)) wx) (fun j _ => 3 - (intOf j).toNat)
      case atStart => exact ⟨0, by omega, rfl, Below.refl _ _⟩
      case round =>
        obtain ⟨id, hid, rfl, hE⟩ := hrel
        have hRX : Below wo.heap.size wo wr := ((Below.refl _ wo).alloc (Nat.le_refl _) _).trans (hE.mono (by omega))
        have HRX := Lib.hid hRX
        have HXX := Lib.hid (HB.out.trans (hRX.mono HB.out.size))
        have y1 : wr.cell? ⟨wo.heap.size, 1, none⟩ = some (.slice K q kc) := (hE.cell (p := ⟨wo.heap.size, 1, none⟩) (by show wo.heap.size < wo.heap.size + 1; omega)).trans (box_cell 1 _ rfl)
        obtain ⟨x0, x1, x2, x3, -⟩ := HS.out _ HXX.out
        have HE := Lib.hid hE
        clear hE hRX
        by_cases h3 : id < 3
        · have h3' : (id : Int) < 3 := by omega
          have hid0 : (0 : Int) ≤ (id : Int) := by omega
          have hml : id < M.names.length := by rw [HNM.out]; exact h3
          obtain ⟨bn, on, eN, hcn⟩ := (HTM.out.below HXX.out).names (by omega)
          have z0 := strs_at hcn hml
          obtain ⟨st, hst⟩ : ∃ st : ByteArray, st = ⟨(M.names.getD id []).toArray⟩ := ⟨_, rfl⟩
          have hsd : st.data.toList = M.names.getD id [] := by rw [hst]
          rw [← hst] at z0
          have PH := fun W (hb : Below wr.heap.size wr W) => landHolds NU 3 uc (some ⟨b, off, none⟩) ue uk M (k : Int) st W ((HTM.out.below HXX.out).below hb) ⟨by omega, by omega⟩
          rw [hsd, made_holds HMAY.out HNM.out HKL.out h3, HEV.out] at PH
          have PI := fun W (hb : Below wr.heap.size wr W) => containsInt K ev.ids.length kc ev.ids (id : Int) W (Nat.le_trans HX.out.2.2.1 HX.out.2.2.2) ((HX.out.2.1.below HRX.out).below hb)
          rw [HQ.out] at PI
          obtain ⟨r, hr⟩ : ∃ r, decide (((id : Nat) : Int) ∈ ev.ids) = r := ⟨_, rfl⟩
          rw [hr] at PH PI
          have PH := Lib.hid PH
          have PI := Lib.hid PI
          have HS2 := Lib.hid (show ∀ W, Below wr.heap.size wr W → W.cell? ⟨g, 0, none⟩ = some (.slice NU 3 uc) ∧ W.cell? ⟨g, 1, none⟩ = some (.slice (some ⟨b, off, none⟩) ue uk) ∧ W.cell? ⟨wo.heap.size, 1, none⟩ = some (.slice K q kc) ∧ Below wr.heap.size wr W from fun W hb => ⟨below_cell hb x0, below_cell hb x1, below_cell hb y1, hb⟩)
          subst eN
          clear hr hst hsd hcn hml x0 x1 x2 x3 y1
          go_wp2_with fail
          refine wp_region_held_drew (S := (fun W => W.cell? ⟨g, 0, none⟩ = some (.slice (some ⟨bn, on, none⟩) 3 uc) ∧ W.cell? ⟨g, 1, none⟩ = some (.slice (some ⟨b, off, none⟩) ue uk) ∧ W.cell? ⟨wo.heap.size, 1, none⟩ = some (.slice K q kc) ∧ Below wr.heap.size wr W)) (by kernel_rfl) (HS2.out _ (Below.refl _ _).drew) (fun hHeld => ?_)
          refine wpAnyH_take (i := 0) (oi := ?tko30) (v := ?tkv30) ?tkh30 (by kernel_rfl) (by kernel_rfl) (by kernel_rfl) ?tkq30 ?tky30 hHeld ?tkr30
          case tkh30 => (simp only [List.getElem?_toArray, List.getElem?_cons_zero]; rfl)
          case tkq30 => exact fun _ _ _ h => h
          case tky30 => exact Or.inl ⟨by rfl, by intro wSw hSw; (try dsimp only at hSw); go_simp; try with_reducible rfl⟩
          try simp only [Act.put, List.setIfInBounds_toArray, List.set_cons_zero, List.set_cons_succ]
          refine wpAnyH_take (i := 1) (oi := ?tko31) (v := ?tkv31) ?tkh31 (by kernel_rfl) (by kernel_rfl) (by kernel_rfl) ?tkq31 ?tky31 hHeld ?tkr31
          case tkh31 => (simp only [List.getElem?_toArray, List.getElem?_cons_succ, List.getElem?_cons_zero]; rfl)
          case tkq31 => exact fun _ _ _ h => h
          case tky31 => exact Or.inl ⟨by rfl, by intro wSw hSw; (try dsimp only at hSw); go_simp; try with_reducible rfl⟩
          try simp only [Act.put, List.setIfInBounds_toArray, List.set_cons_zero, List.set_cons_succ]
          refine wpAnyH_take (i := 2) (oi := ?tko32) (v := ?tkv32) ?tkh32 (by kernel_rfl) (by kernel_rfl) (by kernel_rfl) ?tkq32 ?tky32 hHeld ?tkr32
          case tkh32 => (simp only [List.getElem?_toArray, List.getElem?_cons_succ, List.getElem?_cons_zero]; rfl)
          case tkq32 => exact fun _ _ _ h => h
          case tky32 => exact Or.inl ⟨by rfl, by intro wSw hSw; (try dsimp only at hSw); go_simp; try with_reducible rfl⟩
          try simp only [Act.put, List.setIfInBounds_toArray, List.set_cons_zero, List.set_cons_succ]
          refine wpAnyH_take (i := 4) (oi := ?tko33) (v := ?tkv33) ?tkh33 (by kernel_rfl) (by kernel_rfl) (by kernel_rfl) ?tkq33 ?tky33 hHeld ?tkr33
          case tkh33 => (simp only [List.getElem?_toArray, List.getElem?_cons_succ, List.getElem?_cons_zero]; rfl)
          case tkq33 => exact fun _ _ _ h => h
          case tky33 => exact Or.inl ⟨by rfl, by intro wSw hSw; (try dsimp only at hSw); go_simp; try with_reducible rfl⟩
          try simp only [Act.put, List.setIfInBounds_toArray, List.set_cons_zero, List.set_cons_succ]
          refine wpAnyH_take (i := 5) (oi := ?tko34) (v := ?tkv34) ?tkh34 (by kernel_rfl) (by kernel_rfl) (by kernel_rfl) ?tkq34 ?tky34 hHeld ?tkr34
          case tkh34 => (simp only [List.getElem?_toArray, List.getElem?_cons_succ, List.getElem?_cons_zero]; rfl)
          case tkq34 => exact fun _ _ _ h => h
          case tky34 => exact Or.inl ⟨by rfl, by intro wSw hSw; (try dsimp only at hSw); go_simp; try with_reducible rfl⟩
          try simp only [Act.put, List.setIfInBounds_toArray, List.set_cons_zero, List.set_cons_succ]
          refine wpAnyH_take (i := 6) (oi := ?tko35) (v := ?tkv35) ?tkh35 (by kernel_rfl) (by kernel_rfl) (by kernel_rfl) ?tkq35 ?tky35 hHeld ?tkr35
          case tkh35 => (simp only [List.getElem?_toArray, List.getElem?_cons_succ, List.getElem?_cons_zero]; rfl)
          case tkq35 => exact fun _ _ _ h => h
          case tky35 => exact Or.inl ⟨by rfl, by intro wSw hSw; (try dsimp only at hSw); go_simp; try with_reducible rfl⟩
          try simp only [Act.put, List.setIfInBounds_toArray, List.set_cons_zero, List.set_cons_succ]
          refine wpAnyH_ready (rs := [3]) (by kernel_rfl) (by simp) ?_
          refine AllReadyH.cons (o := ?tko36) ?tkh36 (fun Kt36 hKt36 => ?_) AllReadyH.nil
          case tkh36 => (simp only [List.getElem?_toArray, List.getElem?_cons_succ, List.getElem?_cons_zero]; rfl)
          go_simp
          (go_at_call 18; refine (PH.out _ (Below.refl _ _).drew).mono ?_; rintro e y1 ⟨rfl, hb1⟩; have hB1 := undrew1 hb1)
          refine hKt36.out _ _ ?_ (fun hHt36 => ?_)
          · (exact HS2.out _ hB1)
          clear hKt36 Kt36 hHeld
          have hHeld := hHt36
          clear hHt36
          try simp only [Act.put, List.setIfInBounds_toArray, List.set_cons_zero, List.set_cons_succ]
          refine wpAnyH_ready (rs := [7]) (by kernel_rfl) (by simp) ?_
          refine AllReadyH.cons (o := ?tko37) ?tkh37 (fun Kt37 hKt37 => ?_) AllReadyH.nil
          case tkh37 => (simp only [List.getElem?_toArray, List.getElem?_cons_succ, List.getElem?_cons_zero]; rfl)
          go_simp
          (go_at_call 19; refine (PI.out _ hB1).mono ?_; rintro e y2 ⟨rfl, rfl⟩)
          refine hKt37.out _ _ ?_ (fun hHt37 => ?_)
          · (exact HS2.out _ hB1)
          clear hKt37 Kt37 hHeld
          have hHeld := hHt37
          clear hHt37
          try simp only [Act.put, List.setIfInBounds_toArray, List.set_cons_zero, List.set_cons_succ]
          refine wpAnyH_take (i := 8) (oi := ?tko38) (v := ?tkv38) ?tkh38 (by kernel_rfl) (by kernel_rfl) (by kernel_rfl) ?tkq38 ?tky38 hHeld ?tkr38
          case tkh38 => (simp only [List.getElem?_toArray, List.getElem?_cons_succ, List.getElem?_cons_zero]; rfl)
          case tkq38 => exact fun _ _ _ h => h
          case tky38 => exact Or.inl ⟨by rfl, by intro wSw hSw; (try dsimp only at hSw); go_simp; try with_reducible rfl⟩
          try simp only [Act.put, List.setIfInBounds_toArray, List.set_cons_zero, List.set_cons_succ]
          refine wpAnyH_done (by kernel_rfl) ?_ _
          have HB1 := Lib.hid hB1
          clear hB1 hb1 hHeld
          go_wp2
          go_roundw
          case rel => exact ⟨id + 1, by omega, by go_num, HE.out.trans (HB1.out.mono (by have := HE.out.size; rw [HE0.out] at this; exact this))⟩
          case measure => simp [intOf]; omega
        · have hge3 : decide ((id : Int) < 3) = false := by simp; omega
          clear y1 x0 x1 x2 x3
          go_wp2
          go_roundw
          case rel => exact ⟨k + 1, by omega, by go_num, HXX.out⟩
          case measure => simp [intOf]; omega
    · have hge : decide ((k : Int) < (ue : Int)) = false := by simp; omega
      have DR := Lib.hid (DX.out.trans (HB.out.mono DX.out.size))
      go_wp2_with fail
      refine (HA.out _).mono ?_
      rintro e w6 ⟨rfl, hb6⟩
      have D6 := Lib.hid (DR.out.trans (hb6.mono DR.out.size))
      clear hb6
      go_wp2
      go_ret
      exact ⟨rfl, D6.out⟩
end Go.Proofs.Ytlkfdnbgplkiiaa.Trace
