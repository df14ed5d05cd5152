/-
  The walk of the law LogEncodes (stage 10). By an AI agent.
-/
import Derived.Test.YtgfifjcecpllbaaGLogEncodes30
import Derived.Test.YtgfifjcecpllbaaGLogEncodes27
namespace Go.Proofs.Ytgfifjcecpllbaa.Log
open Go.RowKit Go.Proofs.Ytgfifjcecpllbaa.Ints Go.Proofs.Ytgfifjcecpllbaa.Mem Go.Proofs.Ytgfifjcecpllbaa.SumMath Go.Proofs.Ytgfifjcecpllbaa.SumWalks Go.Proofs.Ytgfifjcecpllbaa.Trace Go.Proofs.Ytgfifjcecpllbaa.Record

theorem bytes_str {W : World} {A : Option Addr} {n c : Nat} {zs : List Int} (h : Rd .u8 W A n zs) : (convert 29 9 (.slice A n c)).run Try.prog W = .ok (.string (strOfNums zs)) W :=
  run_str _ _ _ Try.underlying29 Try.underlying5 Try.underlying9 h
theorem enc_wf (t : Tr) : ∀ z ∈ encL t, (Lit.int .u8 z).wf = true := by
  intro z hz
  unfold encL at hz
  split at hz
  · rename_i hm
    obtain ⟨h1, h2⟩ := (mayT_iff _).1 hm
    have h64 := ((namesOk_iff _).1 h1).1
    rcases List.mem_append.1 hz with h | h
    · exact u8_wf (head_bytes _ z h)
    · exact u8_wf (recs_bytes (p := t.names.length) (by omega) (evs_ids h2) z h)
  · cases hz
/-- What both Encodes leave: bytes that are as string s. -/
def GotLog (w : World) (s : ByteArray) (e : Ending) (w' : World) : Prop :=
  ∃ A n c, e = .returned (.slice A n c) ∧ (∀ W, Below w'.heap.size w' W → (convert 29 9 (.slice A n c)).run Try.prog W = .ok (.string s) W) ∧ Below w.heap.size w w'
theorem got_log {w w' : World} {t : Tr} {e : Ending} (h : GotBytes w (encL t) e w') : GotLog w (strOfNums (encL t)) e w' := by
  obtain ⟨A, c, he, hr, -, -, -, -, hb⟩ := made_slice h (enc_wf t)
  exact ⟨A, _, c, he, fun W hW => bytes_str (hr.below hW), hb⟩

set_option maxHeartbeats 8000000 in
set_option maxRecDepth 100000 in
theorem lawEncodes (LE : ∀ (NA : Option Addr) (nn nc : Nat) (EA : Option Addr) (ne ec : Nat) (t : Tr) (w : World), TrOk Any w NA nn nc EA ne ec t → ne ≤ 1048576 → Calls Try.prog 12 #[.agg #[.slice NA nn nc, .slice EA ne ec]] w (GotBytes w (encL t)))
    (LD : ∀ (A : Option Addr) (n c : Nat) (zs : List Int) (w : World), n ≤ c → c ≤ maxLen → n ≤ 58000000 → Rd .u8 w A n zs → Calls Try.prog 19 #[.slice A n c] w (GotDec w zs))
    (LH : ∀ (A : Option Addr) (n c : Nat) (zs : List Int) (w : World), n ≤ c → c ≤ maxLen → n ≤ 58000000 → Rd .u8 w A n zs → Calls Try.prog 20 #[.slice A n c] w (GotHead w zs 5))
    (NA : Option Addr) (nn nc : Nat) (EA : Option Addr) (ne ec : Nat) (t : Tr) (start : Int) (N : Option Addr) (k kc : Nat) (ns : List Int) (w : World) (h : TrOk Any w NA nn nc EA ne ec t) (hne : ne ≤ 1048576) (hs : 0 ≤ start ∧ start ≤ 18446744073709551615) (hN : Rd .u16 w N k ns) (hk : k ≤ maxLen) :
    Calls Try.prog 3 #[.agg #[.slice NA nn nc, .slice EA ne ec], .int .u64 start, .slice N k kc] w fun e w' => e = .returned (.bool true) ∧ Below w.heap.size w w' := by
  have q63 : maxLen = 9223372036854775807 := rfl
  have e0 := Blk.new w #[.slice NA nn nc, .slice EA ne ec] 25 [.slice NA nn nc, .slice EA ne ec] rfl
  have hbx := (Below.refl _ w).alloc (Nat.le_refl _) (.cells #[.slice NA nn nc, .slice EA ne ec] 25)
  have FE := lawMake start N k kc ns (w.alloc (.cells #[.slice NA nn nc, .slice EA ne ec] 25)) hs (hN.alloc _) hk
  have HX := Lib.hid h
  have e4 := (make_small start ns).1
  obtain ⟨u, hu⟩ : ∃ u, makeM start ns = u := ⟨_, rfl⟩
  rw [hu] at FE e4
  have HAW := Lib.hid (fun W => lawAwake LE LD LH W)
  obtain ⟨s1, hs1⟩ : ∃ s, strOfNums (encL t) = s := ⟨_, rfl⟩
  obtain ⟨s2, hs2⟩ : ∃ s, strOfNums (encL u) = s := ⟨_, rfl⟩
  have FP1 := Lib.hid (fun W (hW : Below w.heap.size w W) => hs1 ▸ (LE NA nn nc EA ne ec t W (TrOk.below HX.out hW) hne).mono fun e w' hm => got_log hm)
  have FQ1 := Lib.hid (fun W (hW : Below w.heap.size w W) => hs1 ▸ (refEncode NA nn nc EA ne ec t W (TrOk.below HX.out hW) hne).mono fun e w' hm => got_log hm)
  have FP2 := Lib.hid (fun W NB mn mc EB me fc (hy : TrOk Any W NB mn mc EB me fc u) => hs2 ▸ (LE NB mn mc EB me fc u W hy (by rw [← hy.elen]; omega)).mono fun e w' hm => got_log hm)
  have FQ2 := Lib.hid (fun W NB mn mc EB me fc (hy : TrOk Any W NB mn mc EB me fc u) => hs2 ▸ (refEncode NB mn mc EB me fc u W hy (by rw [← hy.elen]; omega)).mono fun e w' hm => got_log hm)
  obtain ⟨W1, hW1⟩ : ∃ W1, w.alloc (.cells #[.slice NA nn nc, .slice EA ne ec] 25) = W1 := ⟨_, rfl⟩
  rw [hW1] at e0 FE hbx
  have hW := hW1
  have HE := Lib.hid FE
  have E0 := Lib.hid e0
  have HBX := Lib.hid hbx
  clear FE e0 h hbx hu hs1 hs2 hW1 hN LE LD LH
  go_enter Try.func3, Try.ntmps3
  go_wp2_with fail
  refine HE.out.mono ?_
  rintro e w2 ⟨NB, nn2, mc, EB, ne2, fc, rfl, hk2, hB2⟩
  have b1 := (E0.out.later hB2).alloc (.cells #[.slice NB nn2 mc, .slice EB ne2 fc] 25)
  have b2 := Blk.new w2 #[.slice NB nn2 mc, .slice EB ne2 fc] 25 [.slice NB nn2 mc, .slice EB ne2 fc] rfl
  have hk3 := TrOk.below hk2 ((Below.refl _ w2).alloc (Nat.le_refl _) (.cells #[.slice NB nn2 mc, .slice EB ne2 fc] 25))
  have hB3 := (HBX.out.trans (hB2.mono HBX.out.size))
  have hB4 := hB3.alloc hB3.size (.cells #[.slice NB nn2 mc, .slice EB ne2 fc] 25)
  go_wp2_with fail
  obtain ⟨V, hV⟩ : ∃ V, V = ((w2.alloc (.cells #[.slice NB nn2 mc, .slice EB ne2 fc] 25))).drew := ⟨_, rfl⟩
  have HB1 := Lib.hid (show Blk V w.heap.size [.slice NA nn nc, .slice EA ne ec] by rw [hV]; exact b1.drew)
  have HB2 := Lib.hid (show Blk V w2.heap.size [.slice NB nn2 mc, .slice EB ne2 fc] by rw [hV]; exact b2.drew)
  have HV := Lib.hid (show Below w.heap.size w V by rw [hV]; exact hB4.drew)
  have HK := Lib.hid (show TrOk Any V NB nn2 mc EB ne2 fc u by rw [hV]; exact TrOk.below hk3 (Below.refl _ _).drew)
  clear b1 b2 hk3 hB3 hB4 hk2 hB2 HE E0 HX HBX hW
  refine wp_region_held_drew (S := fun W => W.cell? ⟨w.heap.size, 0, none⟩ = some (.slice NA nn nc) ∧ W.cell? ⟨w.heap.size, 1, none⟩ = some (.slice EA ne ec) ∧ W.cell? ⟨w2.heap.size, 0, none⟩ = some (.slice NB nn2 mc) ∧ W.cell? ⟨w2.heap.size, 1, none⟩ = some (.slice EB ne2 fc)) (by kernel_rfl) (by rw [← hV]; exact ⟨HB1.out.cell 0 rfl, HB1.out.cell 1 rfl, HB2.out.cell 0 rfl, HB2.out.cell 1 rfl⟩) (fun hHeld => ?_)
  rw [← hV] at hHeld ⊢
  clear hV
  refine wpAnyH_take (i := 0) (oi := ?tko1) (v := ?tkv1) ?tkh1 (by kernel_rfl) (by kernel_rfl) (by kernel_rfl) ?tkq1 ?tky1 hHeld ?tkr1
  case tkh1 => (simp only [List.getElem?_toArray, List.getElem?_cons_zero]; rfl)
  case tkq1 => exact fun _ _ _ h => h
  case tky1 => exact Or.inl ⟨by rfl, by intro wSw hSw; (try dsimp only at hSw); go_simp; try with_reducible rfl⟩
  try simp only [Act.put, List.setIfInBounds_toArray, List.set_cons_zero, List.set_cons_succ]
  refine wpAnyH_take (i := 3) (oi := ?tko2) (v := ?tkv2) ?tkh2 (by kernel_rfl) (by kernel_rfl) (by kernel_rfl) ?tkq2 ?tky2 hHeld ?tkr2
  case tkh2 => (simp only [List.getElem?_toArray, List.getElem?_cons_succ, List.getElem?_cons_zero]; rfl)
  case tkq2 => exact fun _ _ _ h => h
  case tky2 => exact Or.inl ⟨by rfl, by intro wSw hSw; (try dsimp only at hSw); go_simp; try with_reducible rfl⟩
  try simp only [Act.put, List.setIfInBounds_toArray, List.set_cons_zero, List.set_cons_succ]
  refine wpAnyH_ready (rs := [1]) (by kernel_rfl) (by simp) ?_
  refine AllReadyH.cons (o := ?tko3) ?tkh3 (fun Kt3 hKt3 => ?_) AllReadyH.nil
  case tkh3 => (simp only [List.getElem?_toArray, List.getElem?_cons_succ, List.getElem?_cons_zero]; rfl)
  go_simp
  (go_at_call 12; refine (FP1.out V HV.out).mono ?_; rintro e v1 ⟨A1, n1, c1, rfl, hc1, hd1⟩; have k1 := HB1.out.later hd1; have k2' := HB2.out.later hd1)
  refine hKt3.out _ _ ?_ (fun hHt3 => ?_)
  · (exact ⟨k1.cell 0 rfl, k1.cell 1 rfl, k2'.cell 0 rfl, k2'.cell 1 rfl⟩)
  clear hKt3 Kt3 hHeld
  have hHeld := hHt3
  clear hHt3
  try simp only [Act.put, List.setIfInBounds_toArray, List.set_cons_zero, List.set_cons_succ]
  refine Held.more (fun W => (W.cell? ⟨w.heap.size, 0, none⟩ = some (.slice NA nn nc) ∧ W.cell? ⟨w.heap.size, 1, none⟩ = some (.slice EA ne ec) ∧ W.cell? ⟨w2.heap.size, 0, none⟩ = some (.slice NB nn2 mc) ∧ W.cell? ⟨w2.heap.size, 1, none⟩ = some (.slice EB ne2 fc)) ∧ (convert 29 9 (.slice A1 n1 c1)).run Try.prog W = .ok (.string s1) W) (fun W h => h.1) ⟨hHeld, hc1 _ (Below.refl _ _)⟩ (fun hHeld => ?_)
  refine wpAnyH_take (i := 2) (oi := ?tko4) (v := ?tkv4) ?tkh4 (by kernel_rfl) (by kernel_rfl) (by kernel_rfl) ?tkq4 ?tky4 hHeld ?tkr4
  case tkh4 => (simp only [List.getElem?_toArray, List.getElem?_cons_succ, List.getElem?_cons_zero]; rfl)
  case tkq4 => exact fun _ _ _ h => h
  case tky4 => exact Or.inl ⟨by rfl, by intro wSw hSw; (try dsimp only at hSw); go_simp; try with_reducible rfl⟩
  try simp only [Act.put, List.setIfInBounds_toArray, List.set_cons_zero, List.set_cons_succ]
  have hB5 := HV.out.trans (hd1.mono HV.out.size)
  refine wpAnyH_ready (rs := [4]) (by kernel_rfl) (by simp) ?_
  refine AllReadyH.cons (o := ?tko5) ?tkh5 (fun Kt5 hKt5 => ?_) AllReadyH.nil
  case tkh5 => (simp only [List.getElem?_toArray, List.getElem?_cons_succ, List.getElem?_cons_zero]; rfl)
  go_simp
  (go_at_call 13; refine (FQ1.out v1 hB5).mono ?_; rintro e v2 ⟨A2, n2, c2, rfl, hc2, hd2⟩; have k3 := k1.later hd2; have k4 := k2'.later hd2)
  refine hKt5.out _ _ ?_ (fun hHt5 => ?_)
  · (exact ⟨⟨k3.cell 0 rfl, k3.cell 1 rfl, k4.cell 0 rfl, k4.cell 1 rfl⟩, hc1 _ hd2⟩)
  clear hKt5 Kt5 hHeld
  have hHeld := hHt5
  clear hHt5
  try simp only [Act.put, List.setIfInBounds_toArray, List.set_cons_zero, List.set_cons_succ]
  refine Held.more (fun W => ((W.cell? ⟨w.heap.size, 0, none⟩ = some (.slice NA nn nc) ∧ W.cell? ⟨w.heap.size, 1, none⟩ = some (.slice EA ne ec) ∧ W.cell? ⟨w2.heap.size, 0, none⟩ = some (.slice NB nn2 mc) ∧ W.cell? ⟨w2.heap.size, 1, none⟩ = some (.slice EB ne2 fc)) ∧ (convert 29 9 (.slice A1 n1 c1)).run Try.prog W = .ok (.string s1) W) ∧ (convert 29 9 (.slice A2 n2 c2)).run Try.prog W = .ok (.string s1) W) (fun W h => h.1) ⟨hHeld, hc2 _ (Below.refl _ _)⟩ (fun hHeld => ?_)
  refine wpAnyH_take (i := 5) (oi := ?tko6) (v := ?tkv6) ?tkh6 (by kernel_rfl) (by kernel_rfl) (by kernel_rfl) ?tkq6 ?tky6 hHeld ?tkr6
  case tkh6 => (simp only [List.getElem?_toArray, List.getElem?_cons_succ, List.getElem?_cons_zero]; rfl)
  case tkq6 => exact fun _ _ _ h => h
  case tky6 => exact Or.inl ⟨by rfl, by intro wSw hSw; (try dsimp only at hSw); go_simp; try with_reducible rfl⟩
  try simp only [Act.put, List.setIfInBounds_toArray, List.set_cons_zero, List.set_cons_succ]
  refine wpAnyH_take (i := 6) (oi := ?tko7) (v := ?tkv7) ?tkh7 (by kernel_rfl) (by kernel_rfl) (by kernel_rfl) ?tkq7 ?tky7 hHeld ?tkr7
  case tkh7 => (simp only [List.getElem?_toArray, List.getElem?_cons_succ, List.getElem?_cons_zero]; rfl)
  case tkq7 => exact fun _ _ _ h => h
  case tky7 => exact Or.inl ⟨by rfl, by intro wSw hSw; (try dsimp only at hSw); go_simp; try with_reducible rfl⟩
  try simp only [Act.put, List.setIfInBounds_toArray, List.set_cons_zero, List.set_cons_succ]
  refine wpAnyH_take (i := 7) (oi := ?tko8) (v := ?tkv8) ?tkh8 (by kernel_rfl) (by kernel_rfl) (by kernel_rfl) ?tkq8 ?tky8 hHeld ?tkr8
  case tkh8 => (simp only [List.getElem?_toArray, List.getElem?_cons_succ, List.getElem?_cons_zero]; rfl)
  case tkq8 => exact fun _ _ _ h => h
  case tky8 => exact Or.inl ⟨by rfl, by intro wSw hSw; (try dsimp only at hSw); go_simp; try with_reducible rfl⟩
  try simp only [Act.put, List.setIfInBounds_toArray, List.set_cons_zero, List.set_cons_succ]
  refine wpAnyH_take (i := 8) (oi := ?tko9) (v := ?tkv9) ?tkh9 (by kernel_rfl) (by kernel_rfl) (by kernel_rfl) ?tkq9 ?tky9 hHeld ?tkr9
  case tkh9 => (simp only [List.getElem?_toArray, List.getElem?_cons_succ, List.getElem?_cons_zero]; rfl)
  case tkq9 => exact fun _ _ _ h => h
  case tky9 => exact Or.inl ⟨by rfl, by intro wSw hSw; (try dsimp only at hSw); go_simp; try with_reducible rfl⟩
  try simp only [Act.put, List.setIfInBounds_toArray, List.set_cons_zero, List.set_cons_succ]
  refine wpAnyH_take (i := 11) (oi := ?tko10) (v := ?tkv10) ?tkh10 (by kernel_rfl) (by kernel_rfl) (by kernel_rfl) ?tkq10 ?tky10 hHeld ?tkr10
  case tkh10 => (simp only [List.getElem?_toArray, List.getElem?_cons_succ, List.getElem?_cons_zero]; rfl)
  case tkq10 => exact fun _ _ _ h => h
  case tky10 => exact Or.inl ⟨by rfl, by intro wSw hSw; (try dsimp only at hSw); go_simp; try with_reducible rfl⟩
  try simp only [Act.put, List.setIfInBounds_toArray, List.set_cons_zero, List.set_cons_succ]
  have hB6 := hB5.trans (hd2.mono hB5.size)
  have hK2 := TrOk.below (TrOk.below HK.out hd1) hd2
  refine wpAnyH_ready (rs := [9]) (by kernel_rfl) (by simp) ?_
  refine AllReadyH.cons (o := ?tko11) ?tkh11 (fun Kt11 hKt11 => ?_) AllReadyH.nil
  case tkh11 => (simp only [List.getElem?_toArray, List.getElem?_cons_succ, List.getElem?_cons_zero]; rfl)
  go_simp
  (go_at_call 12; refine (FP2.out v2 NB nn2 mc EB ne2 fc hK2).mono ?_; rintro e v3 ⟨A3, n3, c3, rfl, hc3, hd3⟩; have k5 := k3.later hd3; have k6 := k4.later hd3)
  refine hKt11.out _ _ ?_ (fun hHt11 => ?_)
  · (exact ⟨⟨⟨k5.cell 0 rfl, k5.cell 1 rfl, k6.cell 0 rfl, k6.cell 1 rfl⟩, hc1 _ (hd2.trans (hd3.mono hd2.size))⟩, hc2 _ hd3⟩)
  clear hKt11 Kt11 hHeld
  have hHeld := hHt11
  clear hHt11
  try simp only [Act.put, List.setIfInBounds_toArray, List.set_cons_zero, List.set_cons_succ]
  refine Held.more (fun W => (((W.cell? ⟨w.heap.size, 0, none⟩ = some (.slice NA nn nc) ∧ W.cell? ⟨w.heap.size, 1, none⟩ = some (.slice EA ne ec) ∧ W.cell? ⟨w2.heap.size, 0, none⟩ = some (.slice NB nn2 mc) ∧ W.cell? ⟨w2.heap.size, 1, none⟩ = some (.slice EB ne2 fc)) ∧ (convert 29 9 (.slice A1 n1 c1)).run Try.prog W = .ok (.string s1) W) ∧ (convert 29 9 (.slice A2 n2 c2)).run Try.prog W = .ok (.string s1) W) ∧ (convert 29 9 (.slice A3 n3 c3)).run Try.prog W = .ok (.string s2) W) (fun W h => h.1) ⟨hHeld, hc3 _ (Below.refl _ _)⟩ (fun hHeld => ?_)
  refine wpAnyH_take (i := 10) (oi := ?tko12) (v := ?tkv12) ?tkh12 (by kernel_rfl) (by kernel_rfl) (by kernel_rfl) ?tkq12 ?tky12 hHeld ?tkr12
  case tkh12 => (simp only [List.getElem?_toArray, List.getElem?_cons_succ, List.getElem?_cons_zero]; rfl)
  case tkq12 => exact fun _ _ _ h => h
  case tky12 => exact Or.inl ⟨by rfl, by intro wSw hSw; (try dsimp only at hSw); go_simp; try with_reducible rfl⟩
  try simp only [Act.put, List.setIfInBounds_toArray, List.set_cons_zero, List.set_cons_succ]
  have hB7 := hB6.trans (hd3.mono hB6.size)
  refine wpAnyH_ready (rs := [12]) (by kernel_rfl) (by simp) ?_
  refine AllReadyH.cons (o := ?tko13) ?tkh13 (fun Kt13 hKt13 => ?_) AllReadyH.nil
  case tkh13 => (simp only [List.getElem?_toArray, List.getElem?_cons_succ, List.getElem?_cons_zero]; rfl)
  go_simp
  (go_at_call 13; refine (FQ2.out v3 NB nn2 mc EB ne2 fc (TrOk.below hK2 hd3)).mono ?_; rintro e v4 ⟨A4, n4, c4, rfl, hc4, hd4⟩; have k7 := k5.later hd4; have k8 := k6.later hd4)
  refine hKt13.out _ _ ?_ (fun hHt13 => ?_)
  · (exact ⟨⟨⟨⟨k7.cell 0 rfl, k7.cell 1 rfl, k8.cell 0 rfl, k8.cell 1 rfl⟩, hc1 _ (hd2.trans ((hd3.trans (hd4.mono hd3.size)).mono hd2.size))⟩, hc2 _ (hd3.trans (hd4.mono hd3.size))⟩, hc3 _ hd4⟩)
  clear hKt13 Kt13 hHeld
  have hHeld := hHt13
  clear hHt13
  try simp only [Act.put, List.setIfInBounds_toArray, List.set_cons_zero, List.set_cons_succ]
  refine Held.more (fun W => ((((W.cell? ⟨w.heap.size, 0, none⟩ = some (.slice NA nn nc) ∧ W.cell? ⟨w.heap.size, 1, none⟩ = some (.slice EA ne ec) ∧ W.cell? ⟨w2.heap.size, 0, none⟩ = some (.slice NB nn2 mc) ∧ W.cell? ⟨w2.heap.size, 1, none⟩ = some (.slice EB ne2 fc)) ∧ (convert 29 9 (.slice A1 n1 c1)).run Try.prog W = .ok (.string s1) W) ∧ (convert 29 9 (.slice A2 n2 c2)).run Try.prog W = .ok (.string s1) W) ∧ (convert 29 9 (.slice A3 n3 c3)).run Try.prog W = .ok (.string s2) W) ∧ (convert 29 9 (.slice A4 n4 c4)).run Try.prog W = .ok (.string s2) W) (fun W h => h.1) ⟨hHeld, hc4 _ (Below.refl _ _)⟩ (fun hHeld => ?_)
  refine wpAnyH_take (i := 13) (oi := ?tko14) (v := ?tkv14) ?tkh14 (by kernel_rfl) (by kernel_rfl) (by kernel_rfl) ?tkq14 ?tky14 hHeld ?tkr14
  case tkh14 => (simp only [List.getElem?_toArray, List.getElem?_cons_succ, List.getElem?_cons_zero]; rfl)
  case tkq14 => exact fun _ _ _ h => h
  case tky14 => exact Or.inl ⟨by rfl, by intro wSw hSw; (try dsimp only at hSw); go_simp; try with_reducible rfl⟩
  try simp only [Act.put, List.setIfInBounds_toArray, List.set_cons_zero, List.set_cons_succ]
  refine wpAnyH_take (i := 14) (oi := ?tko15) (v := ?tkv15) ?tkh15 (by kernel_rfl) (by kernel_rfl) (by kernel_rfl) ?tkq15 ?tky15 hHeld ?tkr15
  case tkh15 => (simp only [List.getElem?_toArray, List.getElem?_cons_succ, List.getElem?_cons_zero]; rfl)
  case tkq15 => exact fun _ _ _ h => h
  case tky15 => exact Or.inl ⟨by rfl, by intro wSw hSw; (try dsimp only at hSw); go_simp; try with_reducible rfl⟩
  try simp only [Act.put, List.setIfInBounds_toArray, List.set_cons_zero, List.set_cons_succ]
  refine wpAnyH_take (i := 15) (oi := ?tko16) (v := ?tkv16) ?tkh16 (by kernel_rfl) (by kernel_rfl) (by kernel_rfl) ?tkq16 ?tky16 hHeld ?tkr16
  case tkh16 => (simp only [List.getElem?_toArray, List.getElem?_cons_succ, List.getElem?_cons_zero]; rfl)
  case tkq16 => exact fun _ _ _ h => h
  case tky16 => exact Or.inl ⟨by rfl, by intro wSw hSw; (try dsimp only at hSw); go_simp; try with_reducible rfl⟩
  try simp only [Act.put, List.setIfInBounds_toArray, List.set_cons_zero, List.set_cons_succ]
  refine wpAnyH_take (i := 16) (oi := ?tko17) (v := ?tkv17) ?tkh17 (by kernel_rfl) (by kernel_rfl) (by kernel_rfl) ?tkq17 ?tky17 hHeld ?tkr17
  case tkh17 => (simp only [List.getElem?_toArray, List.getElem?_cons_succ, List.getElem?_cons_zero]; rfl)
  case tkq17 => exact fun _ _ _ h => h
  case tky17 => exact Or.inl ⟨by rfl, by intro wSw hSw; (try dsimp only at hSw); go_simp; try with_reducible rfl⟩
  try simp only [Act.put, List.setIfInBounds_toArray, List.set_cons_zero, List.set_cons_succ]
  have hB8 := hB7.trans (hd4.mono hB7.size)
  refine wpAnyH_ready (rs := [17]) (by kernel_rfl) (by simp) ?_
  refine AllReadyH.cons (o := ?tko18) ?tkh18 (fun Kt18 hKt18 => ?_) AllReadyH.nil
  case tkh18 => (simp only [List.getElem?_toArray, List.getElem?_cons_succ, List.getElem?_cons_zero]; rfl)
  go_simp
  (go_at_call 14; refine (HAW.out v4).mono ?_; rintro e v5 ⟨rfl, hd5⟩; have k9 := k7.later hd5; have k10 := k8.later hd5)
  refine hKt18.out _ _ ?_ (fun hHt18 => ?_)
  · (exact ⟨⟨⟨⟨⟨k9.cell 0 rfl, k9.cell 1 rfl, k10.cell 0 rfl, k10.cell 1 rfl⟩, hc1 _ (hd2.trans ((hd3.trans ((hd4.trans (hd5.mono hd4.size)).mono hd3.size)).mono hd2.size))⟩, hc2 _ (hd3.trans ((hd4.trans (hd5.mono hd4.size)).mono hd3.size))⟩, hc3 _ (hd4.trans (hd5.mono hd4.size))⟩, hc4 _ hd5⟩)
  clear hKt18 Kt18 hHeld
  have hHeld := hHt18
  clear hHt18
  try simp only [Act.put, List.setIfInBounds_toArray, List.set_cons_zero, List.set_cons_succ]
  refine wpAnyH_take (i := 18) (oi := ?tko19) (v := ?tkv19) ?tkh19 (by kernel_rfl) (by kernel_rfl) (by kernel_rfl) ?tkq19 ?tky19 hHeld ?tkr19
  case tkh19 => (simp only [List.getElem?_toArray, List.getElem?_cons_succ, List.getElem?_cons_zero]; rfl)
  case tkq19 => exact fun _ _ _ h => h
  case tky19 => exact Or.inl ⟨by rfl, by intro wSw hSw; (try dsimp only at hSw); go_simp; try with_reducible rfl⟩
  try simp only [Act.put, List.setIfInBounds_toArray, List.set_cons_zero, List.set_cons_succ]
  refine wpAnyH_take (i := 19) (oi := ?tko20) (v := ?tkv20) ?tkh20 (by kernel_rfl) (by kernel_rfl) (by kernel_rfl) ?tkq20 ?tky20 hHeld ?tkr20
  case tkh20 => (simp only [List.getElem?_toArray, List.getElem?_cons_succ, List.getElem?_cons_zero]; rfl)
  case tkq20 => exact fun _ _ _ h => h
  case tky20 => exact Or.inl ⟨by rfl, by intro wSw hSw; (try dsimp only at hSw); go_simp; try with_reducible rfl⟩
  try simp only [Act.put, List.setIfInBounds_toArray, List.set_cons_zero, List.set_cons_succ]
  refine wpAnyH_done (by kernel_rfl) ?_ _
  clear hHeld
  go_wp2
  go_ret
  exact ⟨rfl, hB8.trans (hd5.mono hB8.size)⟩
end Go.Proofs.Ytgfifjcecpllbaa.Log
