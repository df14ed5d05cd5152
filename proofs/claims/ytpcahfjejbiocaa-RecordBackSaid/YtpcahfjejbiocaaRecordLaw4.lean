/-
  The walk of the law RecordBack (stage 9). By an AI agent.
-/
import Derived.Test.YtpcahfjejbiocaaRecordLaw2
import Derived.Test.YtpcahfjejbiocaaRecordMath
import Derived.Test.YtpcahfjejbiocaaIntsFull
namespace Go.Proofs.Ytpcahfjejbiocaa.Record
open Go.RowKit Go.Proofs.Ytpcahfjejbiocaa.Ints Go.Proofs.Ytpcahfjejbiocaa.Mem Go.Proofs.Ytpcahfjejbiocaa.SumMath Go.Proofs.Ytpcahfjejbiocaa.SumWalks Go.Proofs.Ytpcahfjejbiocaa.Trace

set_option maxHeartbeats 8000000 in
set_option maxRecDepth 100000 in
theorem lawBack (t : Int) (b : Nat) (A : Option Addr) (n c : Nat) (zs : List Int) (R : Option Addr) (l d : Nat) (rs : List Int) (w : World) (hA : A = none → c = 0) (hnc : n ≤ c) (hn : n ≤ 140737488351232) (h : Rd .u8 w A n zs)
    (hl : l ≤ 140737488351232) (hr : Rd .u8 w R l rs) (ht : (Lit.int .u64 t).wf = true) (hb : b < 18446744073709551616) :
    Calls Try.prog 6 #[.int .u64 t, .int .u64 (b : Int), .slice A n c, .slice R l d] w fun e w' => e = .returned (.bool true) ∧ Below w.heap.size w w' := by
  have q63 : maxLen = 9223372036854775807 := rfl
  obtain ⟨i0, hi, hz0, hz1, hz2⟩ := info_parts info5'
  have FE := lawEvent t b (b : Int) rfl w ht hb
  obtain ⟨x, hx⟩ : ∃ x, evB t b = x := ⟨_, rfl⟩
  have hok : idsOk x.ids 64 = true := by rw [← hx]; exact bits_ok b
  have htm : x.time = t := by rw [← hx]; rfl
  obtain ⟨t0, t1⟩ := wf_u64 ht
  have GP := Lib.hid (get_put hok (by rw [htm]; exact t0) (by rw [htm]; exact t1) rs)
  rw [hx] at FE
  have hcnt := ids_count hok
  have hpl : (putR zs x).length = n + (14 + x.ids.length) := by unfold putR; rw [if_pos hok, List.length_append, rec_len, h.len]
  have hpe : putR zs x = zs ++ recR x := by unfold putR; rw [if_pos hok]
  have HPE := Lib.hid hpe
  have HZ := Lib.hid h
  have HRS := Lib.hid hr
  have HE := Lib.hid FE
  have HW := Lib.hid (put_wf (x := x) h.all)
  have HRW := Lib.hid (u8_all (rec_bytes hok))
  have HRL := Lib.hid (rec_len x)
  have FP := Lib.hid (fun W K k (hB : Below w.heap.size w W) (hk : EvOk W x K k) => landPut A n c zs x K k W hA hnc hn (HZ.out.below hB) hk)
  obtain ⟨m, hm⟩ : ∃ m, x.ids.length = m := ⟨_, rfl⟩
  rw [hm] at hcnt hpl
  have hm64 : m ≤ 64 := by omega
  obtain ⟨N, hN⟩ : ∃ N, n + (14 + m) = N := ⟨_, rfl⟩
  rw [hN] at hpl
  have HPL := Lib.hid hpl
  have HM := Lib.hid hm
  have HN := Lib.hid hN
  have k1 : IntKind.i64.wrap ((n : Int) + 14) = (n : Int) + 14 := IntWalk.i64_in _ (by omega)
  have k2 : IntKind.i64.wrap ((n : Int) + 14 + (m : Int)) = (n : Int) + 14 + (m : Int) := IntWalk.i64_in _ (by omega)
  have k3 : ((N : Int) == (n : Int) + 14 + (m : Int)) = true := by simp; omega
  have k4 : (n : Int) ≤ (N : Int) := by omega
  have k5 : ((N : Int) != (n : Int) + 14 + (m : Int)) = false := by simp; omega
  clear FE hx hok htm hpl hpe h hr hcnt hm hN
  go_enter Try.func6, Try.ntmps6
  go_wp2_with fail
  refine HE.out.mono ?_
  rintro e w1 ⟨K, k, rfl, hk, hB1, -⟩
  have b1 := Blk.new w1 #[.int .u64 x.time, .slice K x.ids.length k] 26 [.int .u64 x.time, .slice K x.ids.length k] rfl
  have hB1' := hB1.alloc hB1.size (.cells #[.int .u64 x.time, .slice K x.ids.length k] 26)
  have hk' := hk.below ((Below.refl _ w1).alloc (Nat.le_refl _) (.cells #[.int .u64 x.time, .slice K x.ids.length k] 26))
  have F := FP.out _ K k hB1' hk'
  rw [HM.out] at b1 hB1' hk' F ⊢
  have B1 := Lib.hid b1
  have HB1 := Lib.hid hB1'
  have HK := Lib.hid hk'
  have HF := Lib.hid F
  clear hk hB1 b1 hB1' hk' F
  go_wp2_with fail
  refine HF.out.mono ?_
  intro e w2 hmade
  obtain ⟨A1, c1, rfl, hr1, hc1, hm1, -, -, hB2⟩ := made_slice hmade HW.out
  rw [HPL.out] at hr1 hc1 ⊢
  have b2 := B1.out.later hB2
  have HK2 := Lib.hid (HK.out.below hB2)
  have hB3 := HB1.out.trans (hB2.mono HB1.out.size)
  have hcv1 := hr1.take (m := n) (by omega)
  have htk : (putR zs x).take n = zs := by rw [HPE.out, ← HZ.out.len, List.take_left]
  rw [htk] at hcv1
  obtain ⟨s, hs⟩ : ∃ s, strOfNums zs = s := ⟨_, rfl⟩
  have c1' := fun W (hW : Below w2.heap.size w2 W) => str_of (c := c1) (hcv1.below hW)
  have c2' := fun W (hW : Below w2.heap.size w2 W) => str_of (c := c) (HZ.out.below (hB3.trans (hW.mono hB3.size)))
  rw [hs] at c1' c2'
  have C1 := Lib.hid c1'
  have C2 := Lib.hid c2'
  have B2 := Lib.hid b2
  have HB3 := Lib.hid hB3
  have HR1 := Lib.hid hr1
  clear hmade hB2 b2 hB3 hcv1 hs c1' c2' hr1 HF htk
  have k6 : (n : Int) ≤ (c1 : Int) := by omega
  go_wp2_with fail
  refine wp_region_held_drew (S := fun W => (W.cell? ⟨w1.heap.size, 0, none⟩ = some (.int .u64 x.time) ∧ W.cell? ⟨w1.heap.size, 1, none⟩ = some (.slice K m k)) ∧ (convert 22 9 (.slice A1 n c1)).run Try.prog W = .ok (.string s) W ∧ (convert 22 9 (.slice A n c)).run Try.prog W = .ok (.string s) W) (by kernel_rfl) ⟨⟨B2.out.drew.cell 0 rfl, B2.out.drew.cell 1 rfl⟩, C1.out _ (Below.refl _ _).drew, C2.out _ (Below.refl _ _).drew⟩ (fun hHeld => ?_)
  refine wpAnyH_take (i := 0) (oi := ?tko1) (v := ?tkv1) ?tkh1 (by kernel_rfl) (by kernel_rfl) (by kernel_rfl) ?tkq1 ?tky1 hHeld ?tkr1
  case tkh1 => (simp only [List.getElem?_toArray, List.getElem?_cons_zero]; rfl)
  case tkq1 => exact fun _ _ _ h => h
  case tky1 => exact Or.inl ⟨by rfl, by intro wSw hSw; (try dsimp only at hSw); go_simp; try with_reducible rfl⟩
  try simp only [Act.put, List.setIfInBounds_toArray, List.set_cons_zero, List.set_cons_succ]
  refine wpAnyH_take (i := 1) (oi := ?tko2) (v := ?tkv2) ?tkh2 (by kernel_rfl) (by kernel_rfl) (by kernel_rfl) ?tkq2 ?tky2 hHeld ?tkr2
  case tkh2 => (simp only [List.getElem?_toArray, List.getElem?_cons_succ, List.getElem?_cons_zero]; rfl)
  case tkq2 => exact fun _ _ _ h => h
  case tky2 => exact Or.inl ⟨by rfl, by intro wSw hSw; (try dsimp only at hSw); go_simp; try with_reducible rfl⟩
  try simp only [Act.put, List.setIfInBounds_toArray, List.set_cons_zero, List.set_cons_succ]
  refine wpAnyH_take (i := 2) (oi := ?tko3) (v := ?tkv3) ?tkh3 (by kernel_rfl) (by kernel_rfl) (by kernel_rfl) ?tkq3 ?tky3 hHeld ?tkr3
  case tkh3 => (simp only [List.getElem?_toArray, List.getElem?_cons_succ, List.getElem?_cons_zero]; rfl)
  case tkq3 => exact fun _ _ _ h => h
  case tky3 => exact Or.inl ⟨by rfl, by intro wSw hSw; (try dsimp only at hSw); go_simp; try with_reducible rfl⟩
  try simp only [Act.put, List.setIfInBounds_toArray, List.set_cons_zero, List.set_cons_succ]
  refine wpAnyH_take (i := 3) (oi := ?tko4) (v := ?tkv4) ?tkh4 (by kernel_rfl) (by kernel_rfl) (by kernel_rfl) ?tkq4 ?tky4 hHeld ?tkr4
  case tkh4 => (simp only [List.getElem?_toArray, List.getElem?_cons_succ, List.getElem?_cons_zero]; rfl)
  case tkq4 => exact fun _ _ _ h => h
  case tky4 => exact Or.inl ⟨by rfl, by intro wSw hSw; (try dsimp only at hSw); go_simp; try with_reducible rfl⟩
  try simp only [Act.put, List.setIfInBounds_toArray, List.set_cons_zero, List.set_cons_succ]
  refine wpAnyH_take (i := 4) (oi := ?tko5) (v := ?tkv5) ?tkh5 (by kernel_rfl) (by kernel_rfl) (by kernel_rfl) ?tkq5 ?tky5 hHeld ?tkr5
  case tkh5 => (simp only [List.getElem?_toArray, List.getElem?_cons_succ, List.getElem?_cons_zero]; rfl)
  case tkq5 => exact fun _ _ _ h => h
  case tky5 => exact Or.inl ⟨by rfl, by intro wSw hSw; (try dsimp only at hSw); go_simp; try with_reducible rfl⟩
  try simp only [Act.put, List.setIfInBounds_toArray, List.set_cons_zero, List.set_cons_succ]
  refine wpAnyH_take (i := 5) (oi := ?tko6) (v := ?tkv6) ?tkh6 (by kernel_rfl) (by kernel_rfl) (by kernel_rfl) ?tkq6 ?tky6 hHeld ?tkr6
  case tkh6 => (simp only [List.getElem?_toArray, List.getElem?_cons_succ, List.getElem?_cons_zero]; rfl)
  case tkq6 => exact fun _ _ _ h => h
  case tky6 => exact Or.inl ⟨by rfl, by intro wSw hSw; (try dsimp only at hSw); go_simp; try with_reducible rfl⟩
  try simp only [Act.put, List.setIfInBounds_toArray, List.set_cons_zero, List.set_cons_succ]
  refine wpAnyH_take (i := 6) (oi := ?tko7) (v := ?tkv7) ?tkh7 (by kernel_rfl) (by kernel_rfl) (by kernel_rfl) ?tkq7 ?tky7 hHeld ?tkr7
  case tkh7 => (simp only [List.getElem?_toArray, List.getElem?_cons_succ, List.getElem?_cons_zero]; rfl)
  case tkq7 => exact fun _ _ _ h => h
  case tky7 => exact Or.inl ⟨by rfl, by intro wSw hSw; (try dsimp only at hSw); go_simp; try with_reducible rfl⟩
  try simp only [Act.put, List.setIfInBounds_toArray, List.set_cons_zero, List.set_cons_succ]
  refine wpAnyH_take (i := 7) (oi := ?tko8) (v := ?tkv8) ?tkh8 (by kernel_rfl) (by kernel_rfl) (by kernel_rfl) ?tkq8 ?tky8 hHeld ?tkr8
  case tkh8 => (simp only [List.getElem?_toArray, List.getElem?_cons_succ, List.getElem?_cons_zero]; rfl)
  case tkq8 => exact fun _ _ _ h => h
  case tky8 => exact Or.inl ⟨by rfl, by intro wSw hSw; (try dsimp only at hSw); go_simp; try with_reducible rfl⟩
  try simp only [Act.put, List.setIfInBounds_toArray, List.set_cons_zero, List.set_cons_succ]
  refine wpAnyH_take (i := 8) (oi := ?tko9) (v := ?tkv9) ?tkh9 (by kernel_rfl) (by kernel_rfl) (by kernel_rfl) ?tkq9 ?tky9 hHeld ?tkr9
  case tkh9 => (simp only [List.getElem?_toArray, List.getElem?_cons_succ, List.getElem?_cons_zero]; rfl)
  case tkq9 => exact fun _ _ _ h => h
  case tky9 => exact Or.inl ⟨by rfl, by intro wSw hSw; (try dsimp only at hSw); go_simp; try with_reducible rfl⟩
  try simp only [Act.put, List.setIfInBounds_toArray, List.set_cons_zero, List.set_cons_succ]
  refine wpAnyH_take (i := 9) (oi := ?tko10) (v := ?tkv10) ?tkh10 (by kernel_rfl) (by kernel_rfl) (by kernel_rfl) ?tkq10 ?tky10 hHeld ?tkr10
  case tkh10 => (simp only [List.getElem?_toArray, List.getElem?_cons_succ, List.getElem?_cons_zero]; rfl)
  case tkq10 => exact fun _ _ _ h => h
  case tky10 => exact Or.inl ⟨by rfl, by intro wSw hSw; (try dsimp only at hSw); go_simp; try with_reducible rfl⟩
  try simp only [Act.put, List.setIfInBounds_toArray, List.set_cons_zero, List.set_cons_succ]
  refine wpAnyH_take (i := 10) (oi := ?tko11) (v := ?tkv11) ?tkh11 (by kernel_rfl) (by kernel_rfl) (by kernel_rfl) ?tkq11 ?tky11 hHeld ?tkr11
  case tkh11 => (simp only [List.getElem?_toArray, List.getElem?_cons_succ, List.getElem?_cons_zero]; rfl)
  case tkq11 => exact fun _ _ _ h => h
  case tky11 => exact Or.inl ⟨by rfl, by intro wSw hSw; (try dsimp only at hSw); go_simp; try with_reducible rfl⟩
  try simp only [Act.put, List.setIfInBounds_toArray, List.set_cons_zero, List.set_cons_succ]
  refine wpAnyH_take (i := 11) (oi := ?tko12) (v := ?tkv12) ?tkh12 (by kernel_rfl) (by kernel_rfl) (by kernel_rfl) ?tkq12 ?tky12 hHeld ?tkr12
  case tkh12 => (simp only [List.getElem?_toArray, List.getElem?_cons_succ, List.getElem?_cons_zero]; rfl)
  case tkq12 => exact fun _ _ _ h => h
  case tky12 => exact Or.inl ⟨by rfl, by intro wSw hSw; (try dsimp only at hSw); go_simp; try with_reducible rfl⟩
  try simp only [Act.put, List.setIfInBounds_toArray, List.set_cons_zero, List.set_cons_succ]
  refine wpAnyH_take (i := 12) (oi := ?tko13) (v := ?tkv13) ?tkh13 (by kernel_rfl) (by kernel_rfl) (by kernel_rfl) ?tkq13 ?tky13 hHeld ?tkr13
  case tkh13 => (simp only [List.getElem?_toArray, List.getElem?_cons_succ, List.getElem?_cons_zero]; rfl)
  case tkq13 => exact fun _ _ _ h => h
  case tky13 => exact Or.inl ⟨by rfl, by intro wSw hSw; (try dsimp only at hSw); go_simp; try with_reducible rfl⟩
  try simp only [Act.put, List.setIfInBounds_toArray, List.set_cons_zero, List.set_cons_succ]
  refine wpAnyH_take (i := 13) (oi := ?tko14) (v := ?tkv14) ?tkh14 (by kernel_rfl) (by kernel_rfl) (by kernel_rfl) ?tkq14 ?tky14 hHeld ?tkr14
  case tkh14 => (simp only [List.getElem?_toArray, List.getElem?_cons_succ, List.getElem?_cons_zero]; rfl)
  case tkq14 => exact fun _ _ _ h => h
  case tky14 => exact Or.inl ⟨by rfl, by intro wSw hSw; (try dsimp only at hSw); go_simp; try with_reducible rfl⟩
  try simp only [Act.put, List.setIfInBounds_toArray, List.set_cons_zero, List.set_cons_succ]
  refine wpAnyH_take (i := 14) (oi := ?tko15) (v := ?tkv15) ?tkh15 (by kernel_rfl) (by kernel_rfl) (by kernel_rfl) ?tkq15 ?tky15 hHeld ?tkr15
  case tkh15 => (simp only [List.getElem?_toArray, List.getElem?_cons_succ, List.getElem?_cons_zero]; rfl)
  case tkq15 => exact fun _ _ _ h => h
  case tky15 => exact Or.inl ⟨by rfl, by intro wSw hSw; (try dsimp only at hSw); go_simp; try with_reducible rfl⟩
  try simp only [Act.put, List.setIfInBounds_toArray, List.set_cons_zero, List.set_cons_succ]
  refine wpAnyH_take (i := 15) (oi := ?tko16) (v := ?tkv16) ?tkh16 (by kernel_rfl) (by kernel_rfl) (by kernel_rfl) ?tkq16 ?tky16 hHeld ?tkr16
  case tkh16 => (simp only [List.getElem?_toArray, List.getElem?_cons_succ, List.getElem?_cons_zero]; rfl)
  case tkq16 => exact fun _ _ _ h => h
  case tky16 => exact Or.inl ⟨by rfl, by intro wSw hSw; (try dsimp only at hSw); go_simp; try with_reducible rfl⟩
  try simp only [Act.put, List.setIfInBounds_toArray, List.set_cons_zero, List.set_cons_succ]
  refine wpAnyH_take (i := 16) (oi := ?tko17) (v := ?tkv17) ?tkh17 (by kernel_rfl) (by kernel_rfl) (by kernel_rfl) ?tkq17 ?tky17 hHeld ?tkr17
  case tkh17 => (simp only [List.getElem?_toArray, List.getElem?_cons_succ, List.getElem?_cons_zero]; rfl)
  case tkq17 => exact fun _ _ _ h => h
  case tky17 => exact Or.inl ⟨by rfl, by intro wSw hSw; (try dsimp only at hSw); go_simp; try with_reducible rfl⟩
  try simp only [Act.put, List.setIfInBounds_toArray, List.set_cons_zero, List.set_cons_succ]
  refine wpAnyH_take (i := 17) (oi := ?tko18) (v := ?tkv18) ?tkh18 (by kernel_rfl) (by kernel_rfl) (by kernel_rfl) ?tkq18 ?tky18 hHeld ?tkr18
  case tkh18 => (simp only [List.getElem?_toArray, List.getElem?_cons_succ, List.getElem?_cons_zero]; rfl)
  case tkq18 => exact fun _ _ _ h => h
  case tky18 => exact Or.inl ⟨by rfl, by intro wSw hSw; (try dsimp only at hSw); go_simp; try with_reducible rfl⟩
  try simp only [Act.put, List.setIfInBounds_toArray, List.set_cons_zero, List.set_cons_succ]
  refine wpAnyH_take (i := 18) (oi := ?tko19) (v := ?tkv19) ?tkh19 (by kernel_rfl) (by kernel_rfl) (by kernel_rfl) ?tkq19 ?tky19 hHeld ?tkr19
  case tkh19 => (simp only [List.getElem?_toArray, List.getElem?_cons_succ, List.getElem?_cons_zero]; rfl)
  case tkq19 => exact fun _ _ _ h => h
  case tky19 => exact Or.inl ⟨by rfl, by intro wSw hSw; (try dsimp only at hSw); go_simp; try with_reducible rfl⟩
  try simp only [Act.put, List.setIfInBounds_toArray, List.set_cons_zero, List.set_cons_succ]
  refine wpAnyH_take (i := 19) (oi := ?tko20) (v := ?tkv20) ?tkh20 (by kernel_rfl) (by kernel_rfl) (by kernel_rfl) ?tkq20 ?tky20 hHeld ?tkr20
  case tkh20 => (simp only [List.getElem?_toArray, List.getElem?_cons_succ, List.getElem?_cons_zero]; rfl)
  case tkq20 => exact fun _ _ _ h => h
  case tky20 => exact Or.inl ⟨by rfl, by intro wSw hSw; (try dsimp only at hSw); go_simp; try with_reducible rfl⟩
  try simp only [Act.put, List.setIfInBounds_toArray, List.set_cons_zero, List.set_cons_succ]
  refine wpAnyH_done (by kernel_rfl) ?_ _
  clear hHeld
  obtain ⟨V, hV⟩ : ∃ V, V = w2.drew := ⟨_, rfl⟩
  have HKV := Lib.hid (show EvOk V x K k by rw [hV]; exact HK2.out.below (Below.refl _ w2).drew)
  have HBV := Lib.hid (show Below w.heap.size w V by rw [hV]; exact HB3.out.drew)
  have B3 := Lib.hid (show Blk V w1.heap.size [.int .u64 x.time, .slice K m k] by rw [hV]; exact B2.out.drew)
  have hr2 : Rd .u8 V A1 N (putR zs x) := by rw [hV]; exact HR1.out.drew
  rw [← hV]
  clear hV C1 C2 B2 HR1
  have hNN := HN.out
  obtain ⟨g, off, rfl, -⟩ := hr2.cell (by omega)
  have hd := hr2.drop (m := n) (by omega)
  have hdl : (putR zs x).drop n = recR x := by rw [HPE.out, ← HZ.out.len, List.drop_left]
  rw [hdl] at hd
  obtain ⟨A', c', w4, hrun, hr4, hc4, hm4, ⟨a4, ha4⟩, hB4⟩ := run_append_full (P := Try.prog) .u8 22 22 5 i0 1 Try.underlying22 hi hz0 hz1 hz2 (some ⟨g, off + n, none⟩) (N - n) (recR x) (by omega) hd R l d rs (HRS.out.below HBV.out) (by omega) (by omega)
  have FG := landGet A' (N - n + l) c' (recR x ++ rs) 64 w4 hc4 hm4 hr4
  unfold GotGet at FG
  rw [GP.out.1, GP.out.2.1, GP.out.2.2, HM.out] at FG
  have HG := Lib.hid FG
  have HB4 := Lib.hid (HBV.out.trans (hB4.mono HBV.out.size))
  have B4 := Lib.hid (B3.out.later hB4)
  have HK4 := Lib.hid (HKV.out.below hB4)
  have hc1' : (N : Int) ≤ (c1 : Int) := by omega
  have hnn : ¬ c1 = n := by omega
  have hnn2 : ¬ N - n = 0 := by omega
  clear hd hdl hr2 FG hB4 hr4 hc4 hm4 ha4 k1 k2 k3 k5 hNN
  go_wp2_with (at_builtin; refine Lib.wpList_append_run _ rfl _ _ _ _ rfl _ _ rfl rfl _ _ hrun ?_)
  refine HG.out.mono ?_
  rintro e w5 ⟨K5, k5, rfl, hk5, hB5, -⟩
  have b5 := (B4.out.later hB5).alloc (.cells #[.int .u64 x.time, .slice K5 m k5] 26)
  have x5 := Blk.new w5 #[.int .u64 x.time, .slice K5 m k5] 26 [.int .u64 x.time, .slice K5 m k5] rfl
  have hal := (Below.refl _ w5).alloc (Nat.le_refl _) (.cells #[.int .u64 x.time, .slice K5 m k5] 26)
  have FS := refSameEvent x x K5 K k5 k _ (hk5.below hal) ((HK4.out.below hB5).below hal)
  rw [HM.out] at FS
  have HS := Lib.hid FS
  have HB6 := Lib.hid ((HB4.out.trans (hB5.mono HB4.out.size)).trans (hal.mono (Nat.le_trans HB4.out.size hB5.size)))
  have y0 := b5.cell 0 rfl
  have y1 := b5.cell 1 rfl
  have z0 := x5.cell 0 rfl
  have z1 := x5.cell 1 rfl
  have g1 : (((14 + m : Nat) : Int) == 14 + (m : Int)) = true := by simp
  clear hk5 hB5 b5 x5 hal FS
  go_wp2_with fail
  refine HS.out.mono ?_
  rintro e w6 ⟨rfl, hB7⟩
  go_wp2_with fail
  refine (awake w6).mono ?_
  rintro e w7 ⟨rfl, hB8⟩
  go_wp2
  go_ret
  exact ⟨rfl, (HB6.out.trans (hB7.mono HB6.out.size)).trans (hB8.mono (Nat.le_trans HB6.out.size hB7.size))⟩
end Go.Proofs.Ytpcahfjejbiocaa.Record
