/-
  The law ScanSealed (stage 12), from contracts of the landed Head and Record. By an AI agent.
-/
import Derived.Test.YtbbjoffknoaoiaaGScanAny40
import Derived.Test.YtbbjoffknoaoiaaGScanAny41
namespace Go.Proofs.Ytbbjoffknoaoiaa.Scan
open Go.RowKit Go.Proofs.Ytbbjoffknoaoiaa.Ints Go.Proofs.Ytbbjoffknoaoiaa.Mem Go.Proofs.Ytbbjoffknoaoiaa.SumMath Go.Proofs.Ytbbjoffknoaoiaa.SumWalks Go.Proofs.Ytbbjoffknoaoiaa.Trace Go.Proofs.Ytbbjoffknoaoiaa.Record Go.Proofs.Ytbbjoffknoaoiaa.Log Go.Proofs.Ytbbjoffknoaoiaa.Src

theorem ids_nextS {l : List Ev} {i : Nat} (h : ∀ j, j < i → (l.getD j noEv).ids.length ≤ 300) (h2 : (l.getD i noEv).ids.length ≤ 300) : ∀ j, j < i + 1 → (l.getD j noEv).ids.length ≤ 300 := fun j hj => by
  by_cases e : j = i
  · rw [e]; exact h2
  · exact h j (by omega)

set_option maxHeartbeats 8000000 in
set_option maxRecDepth 100000 in
theorem lawSealedS {M : Nat} (hM : 2000000 ≤ M) (LR : RecC M) (LH : HeadC M) (NA : Option Addr) (nn nc : Nat) (names : List (List UInt8)) (EA : Option Addr) (ne ec : Nat) (l : List Ev) (B : Option Addr) (m bd : Nat) (sc : List Int) (fa : Nat) (w : World) (hnl : names.length = nn) (hnc : nn ≤ maxLen) (hN : Strs w NA names) (hsum : (names.map List.length).sum ≤ 1048576)
    (hel : l.length = ne) (hec : ne ≤ maxLen) (hE : Evs Any w EA l) (hsc : Rd .i64 w B m sc) (hm : m * 8 ≤ 140737488351232) (hfa : fa ≤ 65535) :
    Calls Try.prog 5 #[.slice NA nn nc, .slice EA ne ec, .slice B m bd, .int .u16 (fa : Int)] w fun e w' => e = .returned (.bool true) ∧ Below w.heap.size w w' := by
  have q63 : maxLen = 9223372036854775807 := rfl
  have HD := Lib.hid hN
  have HL := Lib.hid hnl
  have HEV := Lib.hid hE
  have HEL := Lib.hid hel
  have HS := Lib.hid hsum
  have HSC := Lib.hid hsc
  have HSN := Lib.hid (fun A n c (b : List Int) fault p' props W h1 h2 h3 h4 h5 h6 h7 => lawScanned LR LH A n c b B m bd sc fault p' props W h1 h2 h3 h4 h5 hm h6 h7)
  have HA := Lib.hid (fun W => lawAwake (by omega) LR LH W)
  clear hN hnl hE hel hsum hsc LR LH
  by_cases h3 : nn > 300
  · have h3' : (nn : Int) > 300 := by omega
    go_enter Try.func5, Try.ntmps5
    go_wp2_with fail
    refine (HA.out w).mono ?_
    rintro e w' ⟨rfl, hB⟩
    go_wp2
    go_ret
    exact ⟨rfl, hB⟩
  have h3' : ¬ ((nn : Int) > 300) := by omega
  by_cases h4 : ne > 300
  · have h4' : (ne : Int) > 300 := by omega
    go_enter Try.func5, Try.ntmps5
    go_wp2_with fail
    refine (HA.out w).mono ?_
    rintro e w' ⟨rfl, hB⟩
    go_wp2
    go_ret
    exact ⟨rfl, hB⟩
  have h4' : ¬ ((ne : Int) > 300) := by omega
  go_enter Try.func5, Try.ntmps5
  go_wp2_with fail
  go_loopw [23] (fun iv wr => ∃ i : Nat, i ≤ ne ∧ iv = .int .i64 i ∧ Below w.heap.size w wr ∧ Hid (∀ j, j < i → (l.getD j noEv).ids.length ≤ 300)) (fun iv _ => ne - (intOf iv).toNat)
  case atStart => exact ⟨0, Nat.zero_le _, rfl, Below.refl _ _, fun j hj => absurd hj (Nat.not_lt_zero _)⟩
  case round =>
    obtain ⟨i, hi, rfl, hBr, HID⟩ := hrel
    by_cases hin : i < ne
    · obtain ⟨b', off, K, ck, rfl, c0, c1, hokk⟩ := (HEV.out.below hBr).kids (k := i) (by rw [HEL.out]; exact hin)
      have HNX := Lib.hid (fun h => ids_nextS HID.out (i := i) h)
      obtain ⟨ev, hev⟩ : ∃ ev, l.getD i noEv = ev := ⟨_, rfl⟩
      rw [hev] at c0 c1 hokk HNX
      have hmm := hokk.2.2
      obtain ⟨m3, hm3⟩ : ∃ m3, ev.ids.length = m3 := ⟨_, rfl⟩
      rw [hm3] at c1 hmm HNX
      have hx := Blk.new wr #[.int .u64 ev.time, .slice K m3 ck] 38 [.int .u64 ev.time, .slice K m3 ck] rfl
      have x1 := hx.cell 1 rfl
      have HAL := Lib.hid (hBr.alloc hBr.size (.cells #[.int .u64 ev.time, .slice K m3 ck] 38))
      have hmc : (m3 : Int) ≤ 9223372036854775807 := by omega
      by_cases h5 : m3 > 300
      · have h5' : (m3 : Int) > 300 := by omega
        clear hev hm3 hokk hx hmm HNX
        go_wp2_with fail
        refine (HA.out _).mono ?_
        rintro e w' ⟨rfl, hB⟩
        go_wp2
        go_ret
        exact ⟨rfl, HAL.out.trans (hB.mono HAL.out.size)⟩
      have h5' : ¬ ((m3 : Int) > 300) := by omega
      have HN2 := Lib.hid (HNX.out (by omega))
      clear hev hm3 hokk hx hmm HNX
      go_wp2_with fail
      go_roundw
      case rel => exact ⟨i + 1, by omega, by go_num, HAL.out, HN2.out⟩
      case measure => simp [intOf]; omega
    obtain rfl : i = ne := by omega
    have HBR := Lib.hid hBr
    have F1 := lawSeal NA nn nc names EA i ec l wr HL.out (by omega) (HD.out.below hBr) HS.out HEL.out (by omega) (HEV.out.below hBr) HID.out
    have HF1 := Lib.hid F1
    clear hBr F1
    go_wp2_with fail
    refine HF1.out.mono ?_
    rintro e w1 ⟨zs, A1, n1, c1, rfl, hrd, hc1, hm1, hn1, -, hB1⟩
    have HB1 := Lib.hid (HBR.out.trans (hB1.mono HBR.out.size))
    have HQ1 := Lib.hid hrd
    obtain ⟨r, hr1, hr2⟩ : ∃ r : Nat, (fa : Int).tmod ((n1 : Int) + 3) = (r : Int) ∧ r < n1 + 3 := mod_nat fa n1 3 (by decide)
    have k1 : IntKind.i64.wrap (fa : Int) = (fa : Int) := IntWalk.i64_in _ (by omega)
    have k3 : IntKind.i64.wrap ((n1 : Int) + 3) = (n1 : Int) + 3 := IntWalk.i64_in _ (by omega)
    have k5 : IntKind.i64.wrap ((r : Int) - 1) = (r : Int) - 1 := IntWalk.i64_in _ (by omega)
    have k6 : IntKind.i64.wrap (r : Int) = (r : Int) := IntWalk.i64_in _ (by omega)
    have d3 : ¬ ((n1 : Int) + 3 = 0) := by omega
    clear hB1 hrd HF1 hr2
    go_wp2_with fail
    obtain ⟨V, hV⟩ : ∃ V, V = w1.drew := ⟨_, rfl⟩
    have HBV := Lib.hid (show Below w1.heap.size w1 V by rw [hV]; exact (Below.refl _ _).drew)
    have HV := Lib.hid (HB1.out.trans (HBV.out.mono HB1.out.size))
    have HF3 := Lib.hid (lawSeal NA nn nc names none 0 0 [] V HL.out (by omega) (HD.out.below HV.out) HS.out rfl (by omega) (fun h0 => by simp at h0) (fun j hj => absurd hj (Nat.not_lt_zero _)))
    refine wp_region_held_drew (S := fun _ => True) (by kernel_rfl) trivial (fun hHeld => ?_)
    rw [← hV]
    clear hV
    refine wpAnyH_take (i := 0) (oi := ?tko1) (v := ?tkv1) ?tkh1 (by kernel_rfl) (by kernel_rfl) (by kernel_rfl) ?tkq1 ?tky1 hHeld ?tkr1
    case tkh1 => (simp only [List.getElem?_toArray, List.getElem?_cons_zero]; rfl)
    case tkq1 => exact fun _ _ _ h => h
    case tky1 => exact Or.inl ⟨by rfl, by intro wSw hSw; (try dsimp only at hSw); go_simp; try with_reducible rfl⟩
    try simp only [Act.put, List.setIfInBounds_toArray, List.set_cons_zero, List.set_cons_succ]
    refine wpAnyH_take (i := 1) (oi := ?tko2) (v := ?tkv2) ?tkh2 (by kernel_rfl) (by kernel_rfl) (by kernel_rfl) ?tkq2 ?tky2 hHeld ?tkr2
    case tkh2 => (simp only [List.getElem?_toArray, List.getElem?_cons_succ, List.getElem?_cons_zero]; rfl)
    case tkq2 => exact fun _ _ _ h => h
    case tky2 => exact Or.inl ⟨by rfl, by intro wSw hSw; (try dsimp only at hSw); go_simp; try with_reducible rfl⟩
    try simp only [Act.put, List.setIfInBounds_toArray, List.set_cons_zero, List.set_cons_succ]
    refine wpAnyH_take (i := 2) (oi := ?tko3) (v := ?tkv3) ?tkh3 (by kernel_rfl) (by kernel_rfl) (by kernel_rfl) ?tkq3 ?tky3 hHeld ?tkr3
    case tkh3 => (simp only [List.getElem?_toArray, List.getElem?_cons_succ, List.getElem?_cons_zero]; rfl)
    case tkq3 => exact fun _ _ _ h => h
    case tky3 => exact Or.inl ⟨by rfl, by intro wSw hSw; (try dsimp only at hSw); go_simp; try with_reducible rfl⟩
    try simp only [Act.put, List.setIfInBounds_toArray, List.set_cons_zero, List.set_cons_succ]
    refine wpAnyH_take (i := 3) (oi := ?tko4) (v := ?tkv4) ?tkh4 (by kernel_rfl) (by kernel_rfl) (by kernel_rfl) ?tkq4 ?tky4 hHeld ?tkr4
    case tkh4 => (simp only [List.getElem?_toArray, List.getElem?_cons_succ, List.getElem?_cons_zero]; rfl)
    case tkq4 => exact fun _ _ _ h => h
    case tky4 => exact Or.inl ⟨by rfl, by intro wSw hSw; (try dsimp only at hSw); go_simp; try with_reducible rfl⟩
    try simp only [Act.put, List.setIfInBounds_toArray, List.set_cons_zero, List.set_cons_succ]
    refine wpAnyH_take (i := 4) (oi := ?tko5) (v := ?tkv5) ?tkh5 (by kernel_rfl) (by kernel_rfl) (by kernel_rfl) ?tkq5 ?tky5 hHeld ?tkr5
    case tkh5 => (simp only [List.getElem?_toArray, List.getElem?_cons_succ, List.getElem?_cons_zero]; rfl)
    case tkq5 => exact fun _ _ _ h => h
    case tky5 => exact Or.inl ⟨by rfl, by intro wSw hSw; (try dsimp only at hSw); go_simp; try with_reducible rfl⟩
    try simp only [Act.put, List.setIfInBounds_toArray, List.set_cons_zero, List.set_cons_succ]
    refine wpAnyH_take (i := 5) (oi := ?tko6) (v := ?tkv6) ?tkh6 (by kernel_rfl) (by kernel_rfl) (by kernel_rfl) ?tkq6 ?tky6 hHeld ?tkr6
    case tkh6 => (simp only [List.getElem?_toArray, List.getElem?_cons_succ, List.getElem?_cons_zero]; rfl)
    case tkq6 => exact fun _ _ _ h => h
    case tky6 => exact Or.inl ⟨by rfl, by intro wSw hSw; (try dsimp only at hSw); go_simp; try with_reducible rfl⟩
    try simp only [Act.put, List.setIfInBounds_toArray, List.set_cons_zero, List.set_cons_succ]
    refine wpAnyH_take (i := 6) (oi := ?tko7) (v := ?tkv7) ?tkh7 (by kernel_rfl) (by kernel_rfl) (by kernel_rfl) ?tkq7 ?tky7 hHeld ?tkr7
    case tkh7 => (simp only [List.getElem?_toArray, List.getElem?_cons_succ, List.getElem?_cons_zero]; rfl)
    case tkq7 => exact fun _ _ _ h => h
    case tky7 => exact Or.inl ⟨by rfl, by intro wSw hSw; (try dsimp only at hSw); go_simp; try with_reducible rfl⟩
    try simp only [Act.put, List.setIfInBounds_toArray, List.set_cons_zero, List.set_cons_succ]
    refine wpAnyH_take (i := 7) (oi := ?tko8) (v := ?tkv8) ?tkh8 (by kernel_rfl) (by kernel_rfl) (by kernel_rfl) ?tkq8 ?tky8 hHeld ?tkr8
    case tkh8 => (simp only [List.getElem?_toArray, List.getElem?_cons_succ, List.getElem?_cons_zero]; rfl)
    case tkq8 => exact fun _ _ _ h => h
    case tky8 => exact Or.inl ⟨by rfl, by intro wSw hSw; (try dsimp only at hSw); go_simp; try with_reducible rfl⟩
    try simp only [Act.put, List.setIfInBounds_toArray, List.set_cons_zero, List.set_cons_succ]
    refine wpAnyH_take (i := 8) (oi := ?tko9) (v := ?tkv9) ?tkh9 (by kernel_rfl) (by kernel_rfl) (by kernel_rfl) ?tkq9 ?tky9 hHeld ?tkr9
    case tkh9 => (simp only [List.getElem?_toArray, List.getElem?_cons_succ, List.getElem?_cons_zero]; rfl)
    case tkq9 => exact fun _ _ _ h => h
    case tky9 => exact Or.inl ⟨by rfl, by intro wSw hSw; (try dsimp only at hSw); go_simp; try with_reducible rfl⟩
    try simp only [Act.put, List.setIfInBounds_toArray, List.set_cons_zero, List.set_cons_succ]
    refine wpAnyH_take (i := 9) (oi := ?tko10) (v := ?tkv10) ?tkh10 (by kernel_rfl) (by kernel_rfl) (by kernel_rfl) ?tkq10 ?tky10 hHeld ?tkr10
    case tkh10 => (simp only [List.getElem?_toArray, List.getElem?_cons_succ, List.getElem?_cons_zero]; rfl)
    case tkq10 => exact fun _ _ _ h => h
    case tky10 => exact Or.inl ⟨by rfl, by intro wSw hSw; (try dsimp only at hSw); go_simp; try with_reducible rfl⟩
    try simp only [Act.put, List.setIfInBounds_toArray, List.set_cons_zero, List.set_cons_succ]
    refine wpAnyH_take (i := 12) (oi := ?tko11) (v := ?tkv11) ?tkh11 (by kernel_rfl) (by kernel_rfl) (by kernel_rfl) ?tkq11 ?tky11 hHeld ?tkr11
    case tkh11 => (simp only [List.getElem?_toArray, List.getElem?_cons_succ, List.getElem?_cons_zero]; rfl)
    case tkq11 => exact fun _ _ _ h => h
    case tky11 => exact Or.inl ⟨by rfl, by intro wSw hSw; (try dsimp only at hSw); go_simp; try with_reducible rfl⟩
    try simp only [Act.put, List.setIfInBounds_toArray, List.set_cons_zero, List.set_cons_succ]
    refine wpAnyH_take (i := 13) (oi := ?tko12) (v := ?tkv12) ?tkh12 (by kernel_rfl) (by kernel_rfl) (by kernel_rfl) ?tkq12 ?tky12 hHeld ?tkr12
    case tkh12 => (simp only [List.getElem?_toArray, List.getElem?_cons_succ, List.getElem?_cons_zero]; rfl)
    case tkq12 => exact fun _ _ _ h => h
    case tky12 => exact Or.inl ⟨by rfl, by intro wSw hSw; (try dsimp only at hSw); go_simp; try with_reducible rfl⟩
    try simp only [Act.put, List.setIfInBounds_toArray, List.set_cons_zero, List.set_cons_succ]
    refine wpAnyH_ready (rs := [10]) (by kernel_rfl) (by simp) ?_
    refine AllReadyH.cons (o := ?tko13) ?tkh13 (fun Kt13 hKt13 => ?_) AllReadyH.nil
    case tkh13 => (simp only [List.getElem?_toArray, List.getElem?_cons_succ, List.getElem?_cons_zero]; rfl)
    go_simp
    (go_at_call 13; refine HF3.out.mono ?_; rintro e v1 ⟨ys, A3, n3, c3, rfl, -, -, -, hn3, -, hd1⟩; have HD1 := Lib.hid (HBV.out.trans (hd1.mono HBV.out.size)); have HE1 := Lib.hid (HV.out.trans (hd1.mono HV.out.size)); have hn3' : (n3 : Int) ≤ 2000000 := by omega)
    refine hKt13.out _ _ ?_ (fun hHt13 => ?_)
    · (trivial)
    clear hKt13 Kt13 hHeld
    have hHeld := hHt13
    clear hHt13
    try simp only [Act.put, List.setIfInBounds_toArray, List.set_cons_zero, List.set_cons_succ]
    refine wpAnyH_take (i := 11) (oi := ?tko14) (v := ?tkv14) ?tkh14 (by kernel_rfl) (by kernel_rfl) (by kernel_rfl) ?tkq14 ?tky14 hHeld ?tkr14
    case tkh14 => (simp only [List.getElem?_toArray, List.getElem?_cons_succ, List.getElem?_cons_zero]; rfl)
    case tkq14 => exact fun _ _ _ h => h
    case tky14 => exact Or.inl ⟨by rfl, by intro wSw hSw; (try dsimp only at hSw); go_simp; try with_reducible rfl⟩
    try simp only [Act.put, List.setIfInBounds_toArray, List.set_cons_zero, List.set_cons_succ]
    refine wpAnyH_ready (rs := [14]) (by kernel_rfl) (by simp) ?_
    refine AllReadyH.cons (o := ?tko15) ?tkh15 (fun Kt15 hKt15 => ?_) AllReadyH.nil
    case tkh15 => (simp only [List.getElem?_toArray, List.getElem?_cons_succ, List.getElem?_cons_zero]; rfl)
    go_simp
    (go_at_call 8; refine (HSN.out A1 n1 c1 zs ((r : Int) - 1) (n3 : Int) (nn : Int) v1 hc1 hm1 (HQ1.out.below HD1.out) (HSC.out.below HE1.out) (by omega) (by omega) ⟨by omega, by omega⟩).mono ?_; rintro e v2 ⟨rfl, hd2⟩; have HD2 := Lib.hid (HD1.out.trans (hd2.mono HD1.out.size)); have HE2 := Lib.hid (HE1.out.trans (hd2.mono HE1.out.size)))
    refine hKt15.out _ _ ?_ (fun hHt15 => ?_)
    · (trivial)
    clear hKt15 Kt15 hHeld
    have hHeld := hHt15
    clear hHt15
    try simp only [Act.put, List.setIfInBounds_toArray, List.set_cons_zero, List.set_cons_succ]
    refine wpAnyH_take (i := 15) (oi := ?tko16) (v := ?tkv16) ?tkh16 (by kernel_rfl) (by kernel_rfl) (by kernel_rfl) ?tkq16 ?tky16 hHeld ?tkr16
    case tkh16 => (simp only [List.getElem?_toArray, List.getElem?_cons_succ, List.getElem?_cons_zero]; rfl)
    case tkq16 => exact fun _ _ _ h => h
    case tky16 => exact Or.inl ⟨by rfl, by intro wSw hSw; (try dsimp only at hSw); go_simp; try with_reducible rfl⟩
    try simp only [Act.put, List.setIfInBounds_toArray, List.set_cons_zero, List.set_cons_succ]
    refine wpAnyH_take (i := 16) (oi := ?tko17) (v := ?tkv17) ?tkh17 (by kernel_rfl) (by kernel_rfl) (by kernel_rfl) ?tkq17 ?tky17 hHeld ?tkr17
    case tkh17 => (simp only [List.getElem?_toArray, List.getElem?_cons_succ, List.getElem?_cons_zero]; rfl)
    case tkq17 => exact fun _ _ _ h => h
    case tky17 => exact Or.inl ⟨by rfl, by intro wSw hSw; (try dsimp only at hSw); go_simp; try with_reducible rfl⟩
    try simp only [Act.put, List.setIfInBounds_toArray, List.set_cons_zero, List.set_cons_succ]
    refine wpAnyH_take (i := 17) (oi := ?tko18) (v := ?tkv18) ?tkh18 (by kernel_rfl) (by kernel_rfl) (by kernel_rfl) ?tkq18 ?tky18 hHeld ?tkr18
    case tkh18 => (simp only [List.getElem?_toArray, List.getElem?_cons_succ, List.getElem?_cons_zero]; rfl)
    case tkq18 => exact fun _ _ _ h => h
    case tky18 => exact Or.inl ⟨by rfl, by intro wSw hSw; (try dsimp only at hSw); go_simp; try with_reducible rfl⟩
    try simp only [Act.put, List.setIfInBounds_toArray, List.set_cons_zero, List.set_cons_succ]
    refine wpAnyH_ready (rs := [18]) (by kernel_rfl) (by simp) ?_
    refine AllReadyH.cons (o := ?tko19) ?tkh19 (fun Kt19 hKt19 => ?_) AllReadyH.nil
    case tkh19 => (simp only [List.getElem?_toArray, List.getElem?_cons_succ, List.getElem?_cons_zero]; rfl)
    go_simp
    (go_at_call 8; refine (HSN.out A1 n1 c1 zs (-1) 0 3 v2 hc1 hm1 (HQ1.out.below HD2.out) (HSC.out.below HE2.out) (by omega) (by omega) ⟨by decide, by decide⟩).mono ?_; rintro e v3 ⟨rfl, hd3⟩; have HE3 := Lib.hid (HE2.out.trans (hd3.mono HE2.out.size)))
    refine hKt19.out _ _ ?_ (fun hHt19 => ?_)
    · (trivial)
    clear hKt19 Kt19 hHeld
    have hHeld := hHt19
    clear hHt19
    try simp only [Act.put, List.setIfInBounds_toArray, List.set_cons_zero, List.set_cons_succ]
    refine wpAnyH_take (i := 19) (oi := ?tko20) (v := ?tkv20) ?tkh20 (by kernel_rfl) (by kernel_rfl) (by kernel_rfl) ?tkq20 ?tky20 hHeld ?tkr20
    case tkh20 => (simp only [List.getElem?_toArray, List.getElem?_cons_succ, List.getElem?_cons_zero]; rfl)
    case tkq20 => exact fun _ _ _ h => h
    case tky20 => exact Or.inl ⟨by rfl, by intro wSw hSw; (try dsimp only at hSw); go_simp; try with_reducible rfl⟩
    try simp only [Act.put, List.setIfInBounds_toArray, List.set_cons_zero, List.set_cons_succ]
    refine wpAnyH_take (i := 20) (oi := ?tko21) (v := ?tkv21) ?tkh21 (by kernel_rfl) (by kernel_rfl) (by kernel_rfl) ?tkq21 ?tky21 hHeld ?tkr21
    case tkh21 => (simp only [List.getElem?_toArray, List.getElem?_cons_succ, List.getElem?_cons_zero]; rfl)
    case tkq21 => exact fun _ _ _ h => h
    case tky21 => exact Or.inl ⟨by rfl, by intro wSw hSw; (try dsimp only at hSw); go_simp; try with_reducible rfl⟩
    try simp only [Act.put, List.setIfInBounds_toArray, List.set_cons_zero, List.set_cons_succ]
    refine wpAnyH_ready (rs := [21]) (by kernel_rfl) (by simp) ?_
    refine AllReadyH.cons (o := ?tko22) ?tkh22 (fun Kt22 hKt22 => ?_) AllReadyH.nil
    case tkh22 => (simp only [List.getElem?_toArray, List.getElem?_cons_succ, List.getElem?_cons_zero]; rfl)
    go_simp
    (go_at_call 9; refine (HA.out v3).mono ?_; rintro e v4 ⟨rfl, hd4⟩; have HE4 := Lib.hid (HE3.out.trans (hd4.mono HE3.out.size)))
    refine hKt22.out _ _ ?_ (fun hHt22 => ?_)
    · (trivial)
    clear hKt22 Kt22 hHeld
    have hHeld := hHt22
    clear hHt22
    try simp only [Act.put, List.setIfInBounds_toArray, List.set_cons_zero, List.set_cons_succ]
    refine wpAnyH_take (i := 22) (oi := ?tko23) (v := ?tkv23) ?tkh23 (by kernel_rfl) (by kernel_rfl) (by kernel_rfl) ?tkq23 ?tky23 hHeld ?tkr23
    case tkh23 => (simp only [List.getElem?_toArray, List.getElem?_cons_succ, List.getElem?_cons_zero]; rfl)
    case tkq23 => exact fun _ _ _ h => h
    case tky23 => exact Or.inl ⟨by rfl, by intro wSw hSw; (try dsimp only at hSw); go_simp; try with_reducible rfl⟩
    try simp only [Act.put, List.setIfInBounds_toArray, List.set_cons_zero, List.set_cons_succ]
    refine wpAnyH_take (i := 23) (oi := ?tko24) (v := ?tkv24) ?tkh24 (by kernel_rfl) (by kernel_rfl) (by kernel_rfl) ?tkq24 ?tky24 hHeld ?tkr24
    case tkh24 => (simp only [List.getElem?_toArray, List.getElem?_cons_succ, List.getElem?_cons_zero]; rfl)
    case tkq24 => exact fun _ _ _ h => h
    case tky24 => exact Or.inl ⟨by rfl, by intro wSw hSw; (try dsimp only at hSw); go_simp; try with_reducible rfl⟩
    try simp only [Act.put, List.setIfInBounds_toArray, List.set_cons_zero, List.set_cons_succ]
    refine wpAnyH_done (by kernel_rfl) ?_ _
    clear hHeld
    go_wp2
    go_ret
    exact ⟨rfl, HE4.out⟩
end Go.Proofs.Ytbbjoffknoaoiaa.Scan
