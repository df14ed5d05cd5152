/-
  The law ScanSpoilt (stage 12), from contracts of the landed Head and Record. By an AI agent.
-/
import Derived.Test.YtbbjoffknoaoiaaGScanAny35
import Derived.Test.YtbbjoffknoaoiaaGScanAny32
import Derived.Test.YtbbjoffknoaoiaaGScanAny34
namespace Go.Proofs.Ytbbjoffknoaoiaa.Scan
open Go.RowKit Go.Proofs.Ytbbjoffknoaoiaa.Ints Go.Proofs.Ytbbjoffknoaoiaa.Mem Go.Proofs.Ytbbjoffknoaoiaa.SumMath Go.Proofs.Ytbbjoffknoaoiaa.SumWalks Go.Proofs.Ytbbjoffknoaoiaa.Trace Go.Proofs.Ytbbjoffknoaoiaa.Record Go.Proofs.Ytbbjoffknoaoiaa.Log Go.Proofs.Ytbbjoffknoaoiaa.Src

theorem mod_nat (p n k : Nat) (hk : 0 < k) : ∃ r : Nat, (p : Int).tmod ((n : Int) + (k : Int)) = (r : Int) ∧ r < n + k := ⟨p % (n + k), by rw [Int.tmod_eq_emod_of_nonneg (by omega), show (n : Int) + (k : Int) = ((n + k : Nat) : Int) by omega, Int.natCast_emod], Nat.mod_lt _ (by omega)⟩
set_option maxHeartbeats 8000000 in
set_option maxRecDepth 100000 in
theorem lawSpoiltS {M : Nat} (hM : 140737488357232 ≤ M) (LR : RecC M) (LH : HeadC M) (start : Int) (N : Option Addr) (k kc : Nat) (ns : List Int) (p q x : Nat) (R : Option Addr) (l d : Nat) (rs : List Int) (B : Option Addr) (m bd : Nat) (sc : List Int) (fa pl : Nat) (w : World)
    (hs : 0 ≤ start ∧ start ≤ 18446744073709551615) (hN : Rd .u16 w N k ns) (hk : k ≤ maxLen) (hnn : ∀ z ∈ ns, 0 ≤ z)
    (hp : p ≤ 65535) (hq : q ≤ 65535) (hx : x ≤ 255) (hl : l ≤ 140737488351232) (hR : Rd .u8 w R l rs) (hsc : Rd .i64 w B m sc) (hm : m * 8 ≤ 140737488351232) (hfa : fa ≤ 65535) (hpl : pl ≤ 65535) :
    Calls Try.prog 4 #[.int .u64 start, .slice N k kc, .int .u16 (p : Int), .int .u16 (q : Int), .int .u8 (x : Int), .slice R l d, .slice B m bd, .int .u16 (fa : Int), .int .u16 (pl : Int)] w fun e w' => e = .returned (.bool true) ∧ Below w.heap.size w w' := by
  have q63 : maxLen = 9223372036854775807 := rfl
  have HMK := Lib.hid (lawMake start N k kc ns w hs hN hk)
  obtain ⟨e1, e2, e3⟩ := enc_small (start := start) hnn
  have e4 := (make_small start ns).1
  obtain ⟨T, hT⟩ : ∃ T, makeM start ns = T := ⟨_, rfl⟩
  rw [hT] at HMK e1 e2 e3 e4
  obtain ⟨b, hb⟩ : ∃ b, encL T = b := ⟨_, rfl⟩
  have HE := Lib.hid (fun NA nn nc EA ne ec W (h : TrOk Any W NA nn nc EA ne ec T) => refEncode NA nn nc EA ne ec T W h (by rw [← h.elen]; omega))
  rw [hb] at HE e1 e2 e3
  have HBY := Lib.hid e3
  obtain ⟨n, hn⟩ : ∃ n, b.length = n := ⟨_, rfl⟩
  rw [hn] at e1 e2
  have HLN := Lib.hid hn
  have HR := Lib.hid hR
  have HSC := Lib.hid hsc
  have HS := Lib.hid (fun A n c (b : List Int) fault p' props W h1 h2 h3 h4 h5 h6 h7 => lawScanned LR LH A n c b B m bd sc fault p' props W h1 h2 h3 h4 h5 hm h6 h7)
  have HA := Lib.hid (fun W => lawAwake (by omega) LR LH W)
  clear LR LH hT hb e3 hn hR hN hsc
  go_enter Try.func4, Try.ntmps4
  go_wp2_with fail
  refine HMK.out.mono ?_
  rintro e w1 ⟨NA, nn, nc, EA, ne, ec, rfl, hok, hB1⟩
  have HFE := Lib.hid (HE.out NA nn nc EA ne ec w1 hok)
  have HB1 := Lib.hid hB1
  clear hB1 hok HMK HE
  go_wp2_with fail
  refine HFE.out.mono ?_
  rintro e w2 hmade
  obtain ⟨A, c, rfl, hrd, hnc, hcm, -, -, hB2⟩ := made_slice hmade (u8_all HBY.out)
  rw [HLN.out] at hrd hnc ⊢
  have HB2 := Lib.hid (HB1.out.trans (hB2.mono HB1.out.size))
  have HSP := Lib.hid (lawSpoil A n c b p q x R l d rs w2 hp hq hx hnc (by omega) hrd (by omega) (HR.out.below HB2.out))
  clear hmade hB2 hrd HFE
  go_wp2_with fail
  refine HSP.out.mono ?_
  rintro e w3 hmade
  obtain ⟨A3, c3, rfl, hrd3, hnc3, hcm3, -, -, hB3⟩ := made_slice hmade (cut_wf HBY.out HR.out.all p q hx)
  have hL3 : (cutS b p q x ++ rs).length ≤ 140737488357232 := by rw [List.length_append]; have := cut_len b p q x; have := HR.out.len; have := HLN.out; omega
  obtain ⟨n3, hn3⟩ : ∃ n3, (cutS b p q x ++ rs).length = n3 := ⟨_, rfl⟩
  rw [hn3] at hL3 hrd3 hnc3 ⊢
  have HB3 := Lib.hid (HB2.out.trans (hB3.mono HB2.out.size))
  obtain ⟨r, hr1, hr2⟩ : ∃ r : Nat, (fa : Int).tmod ((n3 : Int) + 3) = (r : Int) ∧ r < n3 + 3 := mod_nat fa n3 3 (by decide)
  obtain ⟨t, ht1, ht2⟩ : ∃ t : Nat, (pl : Int).tmod ((n3 : Int) + 2) = (t : Int) ∧ t < n3 + 2 := mod_nat pl n3 2 (by decide)
  have HQ := Lib.hid (fun W (hb : Below w.heap.size w W) (hb3 : Below w3.heap.size w3 W) => HS.out A3 n3 c3 _ ((r : Int) - 1) (t : Int) 3 W hnc3 hcm3 (hrd3.below hb3) (HSC.out.below hb) (by omega) (by omega) ⟨by omega, by omega⟩)
  have c1 : IntKind.i64.wrap (fa : Int) = (fa : Int) := IntWalk.i64_in _ (by omega)
  have c2 : IntKind.i64.wrap (pl : Int) = (pl : Int) := IntWalk.i64_in _ (by omega)
  have c3' : IntKind.i64.wrap ((n3 : Int) + 3) = (n3 : Int) + 3 := IntWalk.i64_in _ (by omega)
  have c4 : IntKind.i64.wrap ((n3 : Int) + 2) = (n3 : Int) + 2 := IntWalk.i64_in _ (by omega)
  have c5 : IntKind.i64.wrap ((r : Int) - 1) = (r : Int) - 1 := IntWalk.i64_in _ (by omega)
  have d3 : ¬ ((n3 : Int) + 3 = 0) := by omega
  have d2 : ¬ ((n3 : Int) + 2 = 0) := by omega
  have c6 : IntKind.i64.wrap (r : Int) = (r : Int) := IntWalk.i64_in _ (by omega)
  have c7 : IntKind.i64.wrap (t : Int) = (t : Int) := IntWalk.i64_in _ (by omega)
  clear hmade hrd3 hB3 hn3 HSP HS hr2 ht2 hL3
  go_wp2_with fail
  obtain ⟨V, hV⟩ : ∃ V, V = w3.drew := ⟨_, rfl⟩
  have HBV := Lib.hid (show Below w3.heap.size w3 V by rw [hV]; exact (Below.refl _ _).drew)
  have HQV := Lib.hid (HQ.out V (HB3.out.trans (HBV.out.mono HB3.out.size)) HBV.out)
  refine wp_region_held_drew (S := fun _ => True) (by kernel_rfl) trivial (fun hHeld => ?_)
  rw [← hV]
  clear hV
  refine wpAnyH_take (i := 0) (oi := ?tko1) (v := ?tkv1) ?tkh1 (by kernel_rfl) (by kernel_rfl) (by kernel_rfl) ?tkq1 ?tky1 hHeld ?tkr1
  case tkh1 => (simp only [List.getElem?_toArray, List.getElem?_cons_zero]; rfl)
  case tkq1 => exact fun _ _ _ h => h
  case tky1 => exact Or.inl ⟨by rfl, by intro wSw hSw; (try dsimp only at hSw); go_simp; try with_reducible rfl⟩
  try simp only [Act.put, List.setIfInBounds_toArray, List.set_cons_zero, List.set_cons_succ]
  refine wpAnyH_take (i := 1) (oi := ?tko2) (v := ?tkv2) ?tkh2 (by kernel_rfl) (by kernel_rfl) (by kernel_rfl) ?tkq2 ?tky2 hHeld ?tkr2
  case tkh2 => (simp only [List.getElem?_toArray, List.getElem?_cons_succ, List.getElem?_cons_zero]; rfl)
  case tkq2 => exact fun _ _ _ h => h
  case tky2 => exact Or.inl ⟨by rfl, by intro wSw hSw; (try dsimp only at hSw); go_simp; try with_reducible rfl⟩
  try simp only [Act.put, List.setIfInBounds_toArray, List.set_cons_zero, List.set_cons_succ]
  refine wpAnyH_take (i := 2) (oi := ?tko3) (v := ?tkv3) ?tkh3 (by kernel_rfl) (by kernel_rfl) (by kernel_rfl) ?tkq3 ?tky3 hHeld ?tkr3
  case tkh3 => (simp only [List.getElem?_toArray, List.getElem?_cons_succ, List.getElem?_cons_zero]; rfl)
  case tkq3 => exact fun _ _ _ h => h
  case tky3 => exact Or.inl ⟨by rfl, by intro wSw hSw; (try dsimp only at hSw); go_simp; try with_reducible rfl⟩
  try simp only [Act.put, List.setIfInBounds_toArray, List.set_cons_zero, List.set_cons_succ]
  refine wpAnyH_take (i := 3) (oi := ?tko4) (v := ?tkv4) ?tkh4 (by kernel_rfl) (by kernel_rfl) (by kernel_rfl) ?tkq4 ?tky4 hHeld ?tkr4
  case tkh4 => (simp only [List.getElem?_toArray, List.getElem?_cons_succ, List.getElem?_cons_zero]; rfl)
  case tkq4 => exact fun _ _ _ h => h
  case tky4 => exact Or.inl ⟨by rfl, by intro wSw hSw; (try dsimp only at hSw); go_simp; try with_reducible rfl⟩
  try simp only [Act.put, List.setIfInBounds_toArray, List.set_cons_zero, List.set_cons_succ]
  refine wpAnyH_take (i := 4) (oi := ?tko5) (v := ?tkv5) ?tkh5 (by kernel_rfl) (by kernel_rfl) (by kernel_rfl) ?tkq5 ?tky5 hHeld ?tkr5
  case tkh5 => (simp only [List.getElem?_toArray, List.getElem?_cons_succ, List.getElem?_cons_zero]; rfl)
  case tkq5 => exact fun _ _ _ h => h
  case tky5 => exact Or.inl ⟨by rfl, by intro wSw hSw; (try dsimp only at hSw); go_simp; try with_reducible rfl⟩
  try simp only [Act.put, List.setIfInBounds_toArray, List.set_cons_zero, List.set_cons_succ]
  refine wpAnyH_take (i := 5) (oi := ?tko6) (v := ?tkv6) ?tkh6 (by kernel_rfl) (by kernel_rfl) (by kernel_rfl) ?tkq6 ?tky6 hHeld ?tkr6
  case tkh6 => (simp only [List.getElem?_toArray, List.getElem?_cons_succ, List.getElem?_cons_zero]; rfl)
  case tkq6 => exact fun _ _ _ h => h
  case tky6 => exact Or.inl ⟨by rfl, by intro wSw hSw; (try dsimp only at hSw); go_simp; try with_reducible rfl⟩
  try simp only [Act.put, List.setIfInBounds_toArray, List.set_cons_zero, List.set_cons_succ]
  refine wpAnyH_take (i := 6) (oi := ?tko7) (v := ?tkv7) ?tkh7 (by kernel_rfl) (by kernel_rfl) (by kernel_rfl) ?tkq7 ?tky7 hHeld ?tkr7
  case tkh7 => (simp only [List.getElem?_toArray, List.getElem?_cons_succ, List.getElem?_cons_zero]; rfl)
  case tkq7 => exact fun _ _ _ h => h
  case tky7 => exact Or.inl ⟨by rfl, by intro wSw hSw; (try dsimp only at hSw); go_simp; try with_reducible rfl⟩
  try simp only [Act.put, List.setIfInBounds_toArray, List.set_cons_zero, List.set_cons_succ]
  refine wpAnyH_take (i := 7) (oi := ?tko8) (v := ?tkv8) ?tkh8 (by kernel_rfl) (by kernel_rfl) (by kernel_rfl) ?tkq8 ?tky8 hHeld ?tkr8
  case tkh8 => (simp only [List.getElem?_toArray, List.getElem?_cons_succ, List.getElem?_cons_zero]; rfl)
  case tkq8 => exact fun _ _ _ h => h
  case tky8 => exact Or.inl ⟨by rfl, by intro wSw hSw; (try dsimp only at hSw); go_simp; try with_reducible rfl⟩
  try simp only [Act.put, List.setIfInBounds_toArray, List.set_cons_zero, List.set_cons_succ]
  refine wpAnyH_take (i := 8) (oi := ?tko9) (v := ?tkv9) ?tkh9 (by kernel_rfl) (by kernel_rfl) (by kernel_rfl) ?tkq9 ?tky9 hHeld ?tkr9
  case tkh9 => (simp only [List.getElem?_toArray, List.getElem?_cons_succ, List.getElem?_cons_zero]; rfl)
  case tkq9 => exact fun _ _ _ h => h
  case tky9 => exact Or.inl ⟨by rfl, by intro wSw hSw; (try dsimp only at hSw); go_simp; try with_reducible rfl⟩
  try simp only [Act.put, List.setIfInBounds_toArray, List.set_cons_zero, List.set_cons_succ]
  refine wpAnyH_take (i := 9) (oi := ?tko10) (v := ?tkv10) ?tkh10 (by kernel_rfl) (by kernel_rfl) (by kernel_rfl) ?tkq10 ?tky10 hHeld ?tkr10
  case tkh10 => (simp only [List.getElem?_toArray, List.getElem?_cons_succ, List.getElem?_cons_zero]; rfl)
  case tkq10 => exact fun _ _ _ h => h
  case tky10 => exact Or.inl ⟨by rfl, by intro wSw hSw; (try dsimp only at hSw); go_simp; try with_reducible rfl⟩
  try simp only [Act.put, List.setIfInBounds_toArray, List.set_cons_zero, List.set_cons_succ]
  refine wpAnyH_take (i := 10) (oi := ?tko11) (v := ?tkv11) ?tkh11 (by kernel_rfl) (by kernel_rfl) (by kernel_rfl) ?tkq11 ?tky11 hHeld ?tkr11
  case tkh11 => (simp only [List.getElem?_toArray, List.getElem?_cons_succ, List.getElem?_cons_zero]; rfl)
  case tkq11 => exact fun _ _ _ h => h
  case tky11 => exact Or.inl ⟨by rfl, by intro wSw hSw; (try dsimp only at hSw); go_simp; try with_reducible rfl⟩
  try simp only [Act.put, List.setIfInBounds_toArray, List.set_cons_zero, List.set_cons_succ]
  refine wpAnyH_take (i := 11) (oi := ?tko12) (v := ?tkv12) ?tkh12 (by kernel_rfl) (by kernel_rfl) (by kernel_rfl) ?tkq12 ?tky12 hHeld ?tkr12
  case tkh12 => (simp only [List.getElem?_toArray, List.getElem?_cons_succ, List.getElem?_cons_zero]; rfl)
  case tkq12 => exact fun _ _ _ h => h
  case tky12 => exact Or.inl ⟨by rfl, by intro wSw hSw; (try dsimp only at hSw); go_simp; try with_reducible rfl⟩
  try simp only [Act.put, List.setIfInBounds_toArray, List.set_cons_zero, List.set_cons_succ]
  refine wpAnyH_take (i := 12) (oi := ?tko13) (v := ?tkv13) ?tkh13 (by kernel_rfl) (by kernel_rfl) (by kernel_rfl) ?tkq13 ?tky13 hHeld ?tkr13
  case tkh13 => (simp only [List.getElem?_toArray, List.getElem?_cons_succ, List.getElem?_cons_zero]; rfl)
  case tkq13 => exact fun _ _ _ h => h
  case tky13 => exact Or.inl ⟨by rfl, by intro wSw hSw; (try dsimp only at hSw); go_simp; try with_reducible rfl⟩
  try simp only [Act.put, List.setIfInBounds_toArray, List.set_cons_zero, List.set_cons_succ]
  refine wpAnyH_take (i := 13) (oi := ?tko14) (v := ?tkv14) ?tkh14 (by kernel_rfl) (by kernel_rfl) (by kernel_rfl) ?tkq14 ?tky14 hHeld ?tkr14
  case tkh14 => (simp only [List.getElem?_toArray, List.getElem?_cons_succ, List.getElem?_cons_zero]; rfl)
  case tkq14 => exact fun _ _ _ h => h
  case tky14 => exact Or.inl ⟨by rfl, by intro wSw hSw; (try dsimp only at hSw); go_simp; try with_reducible rfl⟩
  try simp only [Act.put, List.setIfInBounds_toArray, List.set_cons_zero, List.set_cons_succ]
  refine wpAnyH_take (i := 14) (oi := ?tko15) (v := ?tkv15) ?tkh15 (by kernel_rfl) (by kernel_rfl) (by kernel_rfl) ?tkq15 ?tky15 hHeld ?tkr15
  case tkh15 => (simp only [List.getElem?_toArray, List.getElem?_cons_succ, List.getElem?_cons_zero]; rfl)
  case tkq15 => exact fun _ _ _ h => h
  case tky15 => exact Or.inl ⟨by rfl, by intro wSw hSw; (try dsimp only at hSw); go_simp; try with_reducible rfl⟩
  try simp only [Act.put, List.setIfInBounds_toArray, List.set_cons_zero, List.set_cons_succ]
  refine wpAnyH_ready (rs := [15]) (by kernel_rfl) (by simp) ?_
  refine AllReadyH.cons (o := ?tko16) ?tkh16 (fun Kt16 hKt16 => ?_) AllReadyH.nil
  case tkh16 => (simp only [List.getElem?_toArray, List.getElem?_cons_succ, List.getElem?_cons_zero]; rfl)
  go_simp
  (go_at_call 8; refine HQV.out.mono ?_; rintro e v1 ⟨rfl, hd1⟩)
  refine hKt16.out _ _ ?_ (fun hHt16 => ?_)
  · (trivial)
  clear hKt16 Kt16 hHeld
  have hHeld := hHt16
  clear hHt16
  try simp only [Act.put, List.setIfInBounds_toArray, List.set_cons_zero, List.set_cons_succ]
  refine wpAnyH_take (i := 16) (oi := ?tko17) (v := ?tkv17) ?tkh17 (by kernel_rfl) (by kernel_rfl) (by kernel_rfl) ?tkq17 ?tky17 hHeld ?tkr17
  case tkh17 => (simp only [List.getElem?_toArray, List.getElem?_cons_succ, List.getElem?_cons_zero]; rfl)
  case tkq17 => exact fun _ _ _ h => h
  case tky17 => exact Or.inl ⟨by rfl, by intro wSw hSw; (try dsimp only at hSw); go_simp; try with_reducible rfl⟩
  try simp only [Act.put, List.setIfInBounds_toArray, List.set_cons_zero, List.set_cons_succ]
  refine wpAnyH_ready (rs := [17]) (by kernel_rfl) (by simp) ?_
  refine AllReadyH.cons (o := ?tko18) ?tkh18 (fun Kt18 hKt18 => ?_) AllReadyH.nil
  case tkh18 => (simp only [List.getElem?_toArray, List.getElem?_cons_succ, List.getElem?_cons_zero]; rfl)
  go_simp
  (go_at_call 9; refine (HA.out v1).mono ?_; rintro e v2 ⟨rfl, hd2⟩)
  refine hKt18.out _ _ ?_ (fun hHt18 => ?_)
  · (trivial)
  clear hKt18 Kt18 hHeld
  have hHeld := hHt18
  clear hHt18
  try simp only [Act.put, List.setIfInBounds_toArray, List.set_cons_zero, List.set_cons_succ]
  refine wpAnyH_take (i := 18) (oi := ?tko19) (v := ?tkv19) ?tkh19 (by kernel_rfl) (by kernel_rfl) (by kernel_rfl) ?tkq19 ?tky19 hHeld ?tkr19
  case tkh19 => (simp only [List.getElem?_toArray, List.getElem?_cons_succ, List.getElem?_cons_zero]; rfl)
  case tkq19 => exact fun _ _ _ h => h
  case tky19 => exact Or.inl ⟨by rfl, by intro wSw hSw; (try dsimp only at hSw); go_simp; try with_reducible rfl⟩
  try simp only [Act.put, List.setIfInBounds_toArray, List.set_cons_zero, List.set_cons_succ]
  refine wpAnyH_take (i := 19) (oi := ?tko20) (v := ?tkv20) ?tkh20 (by kernel_rfl) (by kernel_rfl) (by kernel_rfl) ?tkq20 ?tky20 hHeld ?tkr20
  case tkh20 => (simp only [List.getElem?_toArray, List.getElem?_cons_succ, List.getElem?_cons_zero]; rfl)
  case tkq20 => exact fun _ _ _ h => h
  case tky20 => exact Or.inl ⟨by rfl, by intro wSw hSw; (try dsimp only at hSw); go_simp; try with_reducible rfl⟩
  try simp only [Act.put, List.setIfInBounds_toArray, List.set_cons_zero, List.set_cons_succ]
  refine wpAnyH_done (by kernel_rfl) ?_ _
  clear hHeld
  go_wp2
  go_ret
  have h1 := HB3.out.trans (HBV.out.mono HB3.out.size)
  have h2 := h1.trans (hd1.mono h1.size)
  exact ⟨rfl, h2.trans (hd2.mono h2.size)⟩
end Go.Proofs.Ytbbjoffknoaoiaa.Scan
