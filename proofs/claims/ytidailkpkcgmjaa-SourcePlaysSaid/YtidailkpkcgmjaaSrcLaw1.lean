/-
  The walk of the law SourcePlays (stage 11). By an AI agent.
-/
import Derived.Test.YtidailkpkcgmjaaSrcAwake
import Derived.Test.YtidailkpkcgmjaaSrcRef
import Derived.Test.YtidailkpkcgmjaaIntRows
namespace Go.Proofs.Ytidailkpkcgmjaa.Src
open Go.RowKit Go.Proofs.Ytidailkpkcgmjaa.Ints Go.Proofs.Ytidailkpkcgmjaa.Mem

set_option maxHeartbeats 8000000 in
set_option maxRecDepth 100000 in
theorem lawPlays (A : Option Addr) (n c : Nat) (bs : List Int) (B : Option Addr) (m d : Nat) (sc : List Int) (fault : Int) (L : Option Addr) (ln lc : Nat) (acts : List (List Int)) (w : World) (hnc : n ≤ c) (hc : c ≤ maxLen) (h : Rd .u8 w A n bs) (hmd : m ≤ maxLen) (hs : Rd .i64 w B m sc)
    (hn : n ≤ 140737488351232) (hm : m * 8 ≤ 140737488351232) (hll : acts.length = ln) (hlm : ln ≤ maxLen) (hL : IntRows [.i64, .i64] w L acts) :
    Calls Try.prog 3 #[.slice A n c, .slice B m d, .int .i64 fault, .slice L ln lc] w fun e w' => e = .returned (.bool true) ∧ Below w.heap.size w w' := by
  have q63 : maxLen = 9223372036854775807 := rfl
  have HN := Lib.hid (landNew A n c bs B m d sc fault w hnc hc h hs hn hm)
  have HRN := Lib.hid (fun W (hb : Below w.heap.size w W) => refNew A n c bs B m d sc fault W hnc hc (h.below hb) hmd (hs.below hb) (fun b => b < w.heap.size) (rd_lt h) (rd_lt hs) (by have := hb.size; omega))
  have HL := Lib.hid hL
  have HLL := Lib.hid hll
  have HBS := Lib.hid h.all
  have HBL := Lib.hid h.len
  obtain ⟨f, hf⟩ : ∃ f, faultP n fault = f := ⟨_, rfl⟩
  rw [hf] at HN HRN
  have hli : (ln : Int) ≤ 9223372036854775807 := by omega
  clear h hs hL hll hf
  go_enter Try.func3, Try.ntmps3
  go_wp2_with fail
  refine HN.out.mono ?_
  rintro e w1 ⟨gL, rfl, hS1, hgL, hB1⟩
  have hgl := hS1.lt
  obtain ⟨SL, hSL⟩ : ∃ SL, (fun b => w.heap.size ≤ b ∧ b < w1.heap.size ∧ b ≠ gL) = SL := ⟨_, rfl⟩
  have HSL := Lib.hid (show ∀ b, SL b → b < w1.heap.size from fun b hb => by rw [← hSL] at hb; exact hb.2.1)
  rw [hSL] at hS1
  have HS1 := Lib.hid hS1
  have HB1 := Lib.hid hB1
  clear hS1 hB1 HN hSL
  go_wp2_with fail
  refine (HRN.out w1 HB1.out).mono ?_
  rintro e w2 ⟨rfl, hS2, hB2⟩
  obtain ⟨gR, hgR⟩ : ∃ gR, w1.heap.size = gR := ⟨_, rfl⟩
  rw [hgR] at hS2 hgl HSL ⊢
  have hgw : w.heap.size ≤ gR := by have := HB1.out.size; omega
  have HLS := Lib.hid (HS1.out.below hB2)
  have HRS := Lib.hid hS2
  have HB2 := Lib.hid (HB1.out.trans (hB2.mono HB1.out.size))
  clear hS2 hB2 HRN HS1 HB1 hgR
  clear w1
  go_wp2_with fail
  go_loopw [27] (fun iv wr => ∃ i N : Nat, i ≤ ln ∧ iv = .int .i64 i ∧ N ≤ i ∧ LSrc SL wr gL bs sc f N ∧ Src4 (fun b => b < w.heap.size) wr gR bs sc f N ∧ Below w.heap.size w wr) (fun iv _ => ln - (intOf iv).toNat)
  case atStart => exact ⟨0, 0, Nat.zero_le _, rfl, Nat.le_refl _, HLS.out, HRS.out, HB2.out⟩
  case round =>
    clear HLS HRS HB2
    obtain ⟨i, N, hi, rfl, hN, hls, hrs, hBr⟩ := hrel
    by_cases hin : i < ln
    rotate_left
    · have hin' : ¬ ((i : Int) < (ln : Int)) := by omega
      have HBr := Lib.hid hBr
      clear hls hrs hBr
      go_wp2_with fail
      refine (lawAwake wr).mono ?_
      rintro e w3 ⟨rfl, hB3⟩
      go_wp2
      go_ret
      exact ⟨rfl, HBr.out.trans (hB3.mono HBr.out.size)⟩
    obtain ⟨b', off, p, q, rfl, -, c0, c1, hp, hq⟩ := (HL.out.below hBr).two (j := i) (by rw [HLL.out]; exact hin)
    have hpb := wf_i64 hp
    have hqb := wf_i64 hq
    have HPB := Lib.hid (show small64 p from hpb)
    have HQB := Lib.hid (show small64 q from hqb)
    have hal := (Below.refl _ wr).alloc (Nat.le_refl _) (.cells #[.int .i64 p, .int .i64 q] 30)
    have hx := Blk.new wr #[.int .i64 p, .int .i64 q] 30 [.int .i64 p, .int .i64 q] rfl
    have hls3 := hls.below hal
    have hrs3 := hrs.below hal
    have hb3 := hBr.trans (hal.mono hBr.size)
    obtain ⟨w3, hw3⟩ : ∃ w3, wr.alloc (.cells #[.int .i64 p, .int .i64 q] 30) = w3 := ⟨_, rfl⟩
    obtain ⟨g3, hg3⟩ : ∃ g3, wr.heap.size = g3 := ⟨_, rfl⟩
    rw [hw3] at hx hls3 hrs3 hb3
    rw [hg3] at hx
    have hg3w : gL < g3 ∧ gR < g3 ∧ w.heap.size ≤ g3 := by
      have h1 := hls.lt
      have h2 := hrs.lt
      have := hBr.size
      omega
    have HX3 := Lib.hid hx
    have HR3 := Lib.hid hrs3
    have HB3 := Lib.hid hb3
    have HLR := Lib.hid (landRead SL gL bs sc f N p q w3 hls3 (by omega) hpb hqb (by rw [HBL.out]; exact hn))
    have x0 := hx.cell 0 rfl
    have x1 := hx.cell 1 rfl
    clear hal hx hls hrs hBr hls3 hrs3 hb3 hp hq hpb hqb
    go_wp2_with fail
    refine HLR.out.mono ?_
    rintro e w4 ⟨v4, rfl, hown4, hls4, hgr4⟩
    obtain ⟨A4, c4, rfl, -⟩ := own_slice hown4
    have HL4 := Lib.hid hls4
    have HR4 := Lib.hid (HR3.out.kept hgr4 (by intro e; injection e with e; omega) (fun b hb e => by injection e with e; omega))
    have HB4 := Lib.hid (HB3.out.trans (below_grown hgr4 HB3.out.size (by omega)))
    have HX4 := Lib.hid (HX3.out.grown hgr4 (by intro e; injection e with e; omega))
    have HO4 := Lib.hid hown4
    have hsz3 : g3 < w3.heap.size := HX3.out.1
    have HRR := Lib.hid (refRead (fun b => b < w.heap.size) gR bs sc f N p q w4 HR4.out (by omega) HPB.out HQB.out)
    have x0 := HX4.out.cell 0 rfl
    have x1 := HX4.out.cell 1 rfl
    clear hown4 hls4 hgr4 HLR HR3 HX3 HB3 hw3 hg3
    go_wp2_with fail
    refine HRR.out.mono ?_
    rintro e w5 ⟨A5, c5, rfl, hrd5, -, -, hS5, hrs5, hgr5⟩
    have hls5 := HL4.out.kept hgr5 (by intro e; injection e with e; omega) (fun b hb e => by injection e with e; have := HSL.out b hb; omega)
    have hb5 := HB4.out.trans (below_grown hgr5 HB4.out.size hgw)
    have hne4 : (Value.slice A4 (readL bs f sc N p q).length c4).ownBlock = none ∨ (Value.slice A4 (readL bs f sc N p q).length c4).ownBlock ≠ some gR := by
      by_cases e : (Value.slice A4 (readL bs f sc N p q).length c4).ownBlock = some gR
      · exfalso
        have := (HO4.out.lt gR e).1
        omega
      · exact Or.inr e
    have hown5 := HO4.out.kept hgr5 hne4
    have HK5 := Lib.hid (readL_bytes (f := f) (sc := sc) (N := N) (p := p) (most := q) HBS.out)
    obtain ⟨s, hs⟩ : ∃ s, strOfNums (readL bs f sc N p q) = s := ⟨_, rfl⟩
    obtain ⟨K, hK⟩ : ∃ K, (readL bs f sc N p q).length = K := ⟨_, rfl⟩
    obtain ⟨E, hE⟩ : ∃ E, readE bs.length f p q = E := ⟨_, rfl⟩
    have hN' : readN bs.length f N p q ≤ N + 1 := by unfold readN; split <;> omega
    obtain ⟨N', hNe⟩ : ∃ N', readN bs.length f N p q = N' := ⟨_, rfl⟩
    have HCV := Lib.hid (show ∀ W, Below w5.heap.size w5 W → (convert 22 9 (.slice A4 K c4)).run Try.prog W = .ok (.string s) W from fun W hW => by
      rw [← hs, ← hK]
      exact conv_own (below_row hown5 hW) HK5.out)
    have HCW := Lib.hid (show ∀ W, Below w5.heap.size w5 W → (convert 22 9 (.slice A5 K c5)).run Try.prog W = .ok (.string s) W from fun W hW => by
      rw [← hs, ← hK]
      exact run_str _ _ _ Try.underlying22 Try.underlying5 Try.underlying9 (hrd5.below hW))
    rw [hNe] at hls5 hrs5 hN'
    rw [hK, hE]
    obtain ⟨ra, rc, rb, rd, hblk, -⟩ := hrs5.ex
    have hcell := hblk.cell 3 rfl
    obtain ⟨V, hV⟩ : ∃ V, V = w5.drew := ⟨_, rfl⟩
    have HB5 := Lib.hid (show Below w5.heap.size w5 V by rw [hV]; exact (Below.refl _ _).drew)
    have hlsV := hls5.below HB5.out
    have HLV := Lib.hid hlsV
    have HRV := Lib.hid (hrs5.below HB5.out)
    have HBV := Lib.hid (hb5.trans (HB5.out.mono hb5.size))
    have hcV := below_cell HB5.out hcell
    have HRD := Lib.hid (landReads SL gL bs sc f N' V hlsV)
    have HLE := Lib.hid (HBL.out ▸ landLen SL gL bs sc f N' V hlsV)
    clear hrd5 hS5 hrs5 hgr5 hls5 hb5 hne4 hown5 hs hK hE hNe hblk hcell hlsV HO4 HL4 HX4 HB4 x0 x1 HRR HR4
    go_wp2_with fail
    refine wp_region_held_drew (S := fun W => ((convert 22 9 (.slice A4 K c4)).run Try.prog W = .ok (.string s) W ∧ (convert 22 9 (.slice A5 K c5)).run Try.prog W = .ok (.string s) W) ∧ W.cell? ⟨gR, 3, none⟩ = some (.int .i64 (N' : Nat))) (by kernel_rfl) (by rw [← hV]; exact ⟨⟨HCV.out V HB5.out, HCW.out V HB5.out⟩, hcV⟩) (fun hHeld => ?_)
    rw [← hV] at hHeld ⊢
    clear hV
    have HH := Lib.hid hHeld
    refine wpAnyH_take (i := 0) (oi := ?tko1) (v := ?tkv1) ?tkh1 (by kernel_rfl) (by kernel_rfl) (by kernel_rfl) ?tkq1 ?tky1 hHeld ?tkr1
    case tkh1 => (simp only [List.getElem?_toArray, List.getElem?_cons_zero]; rfl)
    case tkq1 => exact fun _ _ _ h => h
    case tky1 => exact Or.inl ⟨by rfl, by intro wSw hSw; (try dsimp only at hSw); go_simp; try with_reducible rfl⟩
    try simp only [Act.put, List.setIfInBounds_toArray, List.set_cons_zero, List.set_cons_succ]
    refine wpAnyH_take (i := 1) (oi := ?tko2) (v := ?tkv2) ?tkh2 (by kernel_rfl) (by kernel_rfl) (by kernel_rfl) ?tkq2 ?tky2 hHeld ?tkr2
    case tkh2 => (simp only [List.getElem?_toArray, List.getElem?_cons_succ, List.getElem?_cons_zero]; rfl)
    case tkq2 => exact fun _ _ _ h => h
    case tky2 => exact Or.inl ⟨by rfl, by intro wSw hSw; (try dsimp only at hSw); go_simp; try with_reducible rfl⟩
    try simp only [Act.put, List.setIfInBounds_toArray, List.set_cons_zero, List.set_cons_succ]
    refine wpAnyH_take (i := 2) (oi := ?tko3) (v := ?tkv3) ?tkh3 (by kernel_rfl) (by kernel_rfl) (by kernel_rfl) ?tkq3 ?tky3 hHeld ?tkr3
    case tkh3 => (simp only [List.getElem?_toArray, List.getElem?_cons_succ, List.getElem?_cons_zero]; rfl)
    case tkq3 => exact fun _ _ _ h => h
    case tky3 => exact Or.inl ⟨by rfl, by intro wSw hSw; (try dsimp only at hSw); go_simp; try with_reducible rfl⟩
    try simp only [Act.put, List.setIfInBounds_toArray, List.set_cons_zero, List.set_cons_succ]
    refine wpAnyH_take (i := 3) (oi := ?tko4) (v := ?tkv4) ?tkh4 (by kernel_rfl) (by kernel_rfl) (by kernel_rfl) ?tkq4 ?tky4 hHeld ?tkr4
    case tkh4 => (simp only [List.getElem?_toArray, List.getElem?_cons_succ, List.getElem?_cons_zero]; rfl)
    case tkq4 => exact fun _ _ _ h => h
    case tky4 => exact Or.inl ⟨by rfl, by intro wSw hSw; (try dsimp only at hSw); go_simp; try with_reducible rfl⟩
    try simp only [Act.put, List.setIfInBounds_toArray, List.set_cons_zero, List.set_cons_succ]
    refine wpAnyH_take (i := 4) (oi := ?tko5) (v := ?tkv5) ?tkh5 (by kernel_rfl) (by kernel_rfl) (by kernel_rfl) ?tkq5 ?tky5 hHeld ?tkr5
    case tkh5 => (simp only [List.getElem?_toArray, List.getElem?_cons_succ, List.getElem?_cons_zero]; rfl)
    case tkq5 => exact fun _ _ _ h => h
    case tky5 => exact Or.inl ⟨by rfl, by intro wSw hSw; (try dsimp only at hSw); go_simp; try with_reducible rfl⟩
    try simp only [Act.put, List.setIfInBounds_toArray, List.set_cons_zero, List.set_cons_succ]
    refine wpAnyH_take (i := 5) (oi := ?tko6) (v := ?tkv6) ?tkh6 (by kernel_rfl) (by kernel_rfl) (by kernel_rfl) ?tkq6 ?tky6 hHeld ?tkr6
    case tkh6 => (simp only [List.getElem?_toArray, List.getElem?_cons_succ, List.getElem?_cons_zero]; rfl)
    case tkq6 => exact fun _ _ _ h => h
    case tky6 => exact Or.inl ⟨by rfl, by intro wSw hSw; (try dsimp only at hSw); go_simp; try with_reducible rfl⟩
    try simp only [Act.put, List.setIfInBounds_toArray, List.set_cons_zero, List.set_cons_succ]
    refine wpAnyH_take (i := 6) (oi := ?tko7) (v := ?tkv7) ?tkh7 (by kernel_rfl) (by kernel_rfl) (by kernel_rfl) ?tkq7 ?tky7 hHeld ?tkr7
    case tkh7 => (simp only [List.getElem?_toArray, List.getElem?_cons_succ, List.getElem?_cons_zero]; rfl)
    case tkq7 => exact fun _ _ _ h => h
    case tky7 => exact Or.inl ⟨by rfl, by intro wSw hSw; (try dsimp only at hSw); go_simp; try with_reducible rfl⟩
    try simp only [Act.put, List.setIfInBounds_toArray, List.set_cons_zero, List.set_cons_succ]
    refine wpAnyH_take (i := 7) (oi := ?tko8) (v := ?tkv8) ?tkh8 (by kernel_rfl) (by kernel_rfl) (by kernel_rfl) ?tkq8 ?tky8 hHeld ?tkr8
    case tkh8 => (simp only [List.getElem?_toArray, List.getElem?_cons_succ, List.getElem?_cons_zero]; rfl)
    case tkq8 => exact fun _ _ _ h => h
    case tky8 => exact Or.inl ⟨by rfl, by intro wSw hSw; (try dsimp only at hSw); go_simp; try with_reducible rfl⟩
    try simp only [Act.put, List.setIfInBounds_toArray, List.set_cons_zero, List.set_cons_succ]
    refine wpAnyH_take (i := 8) (oi := ?tko9) (v := ?tkv9) ?tkh9 (by kernel_rfl) (by kernel_rfl) (by kernel_rfl) ?tkq9 ?tky9 hHeld ?tkr9
    case tkh9 => (simp only [List.getElem?_toArray, List.getElem?_cons_succ, List.getElem?_cons_zero]; rfl)
    case tkq9 => exact fun _ _ _ h => h
    case tky9 => exact Or.inl ⟨by rfl, by intro wSw hSw; (try dsimp only at hSw); go_simp; try with_reducible rfl⟩
    try simp only [Act.put, List.setIfInBounds_toArray, List.set_cons_zero, List.set_cons_succ]
    refine wpAnyH_take (i := 9) (oi := ?tko10) (v := ?tkv10) ?tkh10 (by kernel_rfl) (by kernel_rfl) (by kernel_rfl) ?tkq10 ?tky10 hHeld ?tkr10
    case tkh10 => (simp only [List.getElem?_toArray, List.getElem?_cons_succ, List.getElem?_cons_zero]; rfl)
    case tkq10 => exact fun _ _ _ h => h
    case tky10 => exact Or.inl ⟨by rfl, by intro wSw hSw; (try dsimp only at hSw); go_simp; try with_reducible rfl⟩
    try simp only [Act.put, List.setIfInBounds_toArray, List.set_cons_zero, List.set_cons_succ]
    refine wpAnyH_take (i := 10) (oi := ?tko11) (v := ?tkv11) ?tkh11 (by kernel_rfl) (by kernel_rfl) (by kernel_rfl) ?tkq11 ?tky11 hHeld ?tkr11
    case tkh11 => (simp only [List.getElem?_toArray, List.getElem?_cons_succ, List.getElem?_cons_zero]; rfl)
    case tkq11 => exact fun _ _ _ h => h
    case tky11 => exact Or.inl ⟨by rfl, by intro wSw hSw; (try dsimp only at hSw); go_simp; try with_reducible rfl⟩
    try simp only [Act.put, List.setIfInBounds_toArray, List.set_cons_zero, List.set_cons_succ]
    refine wpAnyH_take (i := 11) (oi := ?tko12) (v := ?tkv12) ?tkh12 (by kernel_rfl) (by kernel_rfl) (by kernel_rfl) ?tkq12 ?tky12 hHeld ?tkr12
    case tkh12 => (simp only [List.getElem?_toArray, List.getElem?_cons_succ, List.getElem?_cons_zero]; rfl)
    case tkq12 => exact fun _ _ _ h => h
    case tky12 => exact Or.inl ⟨by rfl, by intro wSw hSw; (try dsimp only at hSw); go_simp; try with_reducible rfl⟩
    try simp only [Act.put, List.setIfInBounds_toArray, List.set_cons_zero, List.set_cons_succ]
    refine wpAnyH_take (i := 13) (oi := ?tko13) (v := ?tkv13) ?tkh13 (by kernel_rfl) (by kernel_rfl) (by kernel_rfl) ?tkq13 ?tky13 hHeld ?tkr13
    case tkh13 => (simp only [List.getElem?_toArray, List.getElem?_cons_succ, List.getElem?_cons_zero]; rfl)
    case tkq13 => exact fun _ _ _ h => h
    case tky13 => exact Or.inl ⟨by rfl, by intro wSw hSw; (try dsimp only at hSw); go_simp; try with_reducible rfl⟩
    try simp only [Act.put, List.setIfInBounds_toArray, List.set_cons_zero, List.set_cons_succ]
    refine wpAnyH_take (i := 14) (oi := ?tko14) (v := ?tkv14) ?tkh14 (by kernel_rfl) (by kernel_rfl) (by kernel_rfl) ?tkq14 ?tky14 hHeld ?tkr14
    case tkh14 => (simp only [List.getElem?_toArray, List.getElem?_cons_succ, List.getElem?_cons_zero]; rfl)
    case tkq14 => exact fun _ _ _ h => h
    case tky14 => exact Or.inl ⟨by rfl, by intro wSw hSw; (try dsimp only at hSw); go_simp; try with_reducible rfl⟩
    try simp only [Act.put, List.setIfInBounds_toArray, List.set_cons_zero, List.set_cons_succ]
    refine wpAnyH_take (i := 15) (oi := ?tko15) (v := ?tkv15) ?tkh15 (by kernel_rfl) (by kernel_rfl) (by kernel_rfl) ?tkq15 ?tky15 hHeld ?tkr15
    case tkh15 => (simp only [List.getElem?_toArray, List.getElem?_cons_succ, List.getElem?_cons_zero]; rfl)
    case tkq15 => exact fun _ _ _ h => h
    case tky15 => exact Or.inl ⟨by rfl, by intro wSw hSw; (try dsimp only at hSw); go_simp; try with_reducible rfl⟩
    try simp only [Act.put, List.setIfInBounds_toArray, List.set_cons_zero, List.set_cons_succ]
    refine wpAnyH_take (i := 16) (oi := ?tko16) (v := ?tkv16) ?tkh16 (by kernel_rfl) (by kernel_rfl) (by kernel_rfl) ?tkq16 ?tky16 hHeld ?tkr16
    case tkh16 => (simp only [List.getElem?_toArray, List.getElem?_cons_succ, List.getElem?_cons_zero]; rfl)
    case tkq16 => exact fun _ _ _ h => h
    case tky16 => exact Or.inl ⟨by rfl, by intro wSw hSw; (try dsimp only at hSw); go_simp; try with_reducible rfl⟩
    try simp only [Act.put, List.setIfInBounds_toArray, List.set_cons_zero, List.set_cons_succ]
    refine wpAnyH_ready (rs := [12]) (by kernel_rfl) (by simp) ?_
    refine AllReadyH.cons (o := ?tko17) ?tkh17 (fun Kt17 hKt17 => ?_) AllReadyH.nil
    case tkh17 => (simp only [List.getElem?_toArray, List.getElem?_cons_succ, List.getElem?_cons_zero]; rfl)
    go_simp
    (go_at_call 11; refine HRD.out.mono ?_; rintro e v6 ⟨rfl, rfl⟩)
    refine hKt17.out _ _ ?_ (fun hHt17 => ?_)
    · (exact HH.out)
    clear hKt17 Kt17 hHeld
    have hHeld := hHt17
    clear hHt17
    try simp only [Act.put, List.setIfInBounds_toArray, List.set_cons_zero, List.set_cons_succ]
    refine wpAnyH_take (i := 17) (oi := ?tko18) (v := ?tkv18) ?tkh18 (by kernel_rfl) (by kernel_rfl) (by kernel_rfl) ?tkq18 ?tky18 hHeld ?tkr18
    case tkh18 => (simp only [List.getElem?_toArray, List.getElem?_cons_succ, List.getElem?_cons_zero]; rfl)
    case tkq18 => exact fun _ _ _ h => h
    case tky18 => exact Or.inl ⟨by rfl, by intro wSw hSw; (try dsimp only at hSw); go_simp; try with_reducible rfl⟩
    try simp only [Act.put, List.setIfInBounds_toArray, List.set_cons_zero, List.set_cons_succ]
    refine wpAnyH_take (i := 18) (oi := ?tko19) (v := ?tkv19) ?tkh19 (by kernel_rfl) (by kernel_rfl) (by kernel_rfl) ?tkq19 ?tky19 hHeld ?tkr19
    case tkh19 => (simp only [List.getElem?_toArray, List.getElem?_cons_succ, List.getElem?_cons_zero]; rfl)
    case tkq19 => exact fun _ _ _ h => h
    case tky19 => exact Or.inl ⟨by rfl, by intro wSw hSw; (try dsimp only at hSw); go_simp; try with_reducible rfl⟩
    try simp only [Act.put, List.setIfInBounds_toArray, List.set_cons_zero, List.set_cons_succ]
    refine wpAnyH_take (i := 19) (oi := ?tko20) (v := ?tkv20) ?tkh20 (by kernel_rfl) (by kernel_rfl) (by kernel_rfl) ?tkq20 ?tky20 hHeld ?tkr20
    case tkh20 => (simp only [List.getElem?_toArray, List.getElem?_cons_succ, List.getElem?_cons_zero]; rfl)
    case tkq20 => exact fun _ _ _ h => h
    case tky20 => exact Or.inl ⟨by rfl, by intro wSw hSw; (try dsimp only at hSw); go_simp; try with_reducible rfl⟩
    try simp only [Act.put, List.setIfInBounds_toArray, List.set_cons_zero, List.set_cons_succ]
    refine wpAnyH_take (i := 20) (oi := ?tko21) (v := ?tkv21) ?tkh21 (by kernel_rfl) (by kernel_rfl) (by kernel_rfl) ?tkq21 ?tky21 hHeld ?tkr21
    case tkh21 => (simp only [List.getElem?_toArray, List.getElem?_cons_succ, List.getElem?_cons_zero]; rfl)
    case tkq21 => exact fun _ _ _ h => h
    case tky21 => exact Or.inl ⟨by rfl, by intro wSw hSw; (try dsimp only at hSw); go_simp; try with_reducible rfl⟩
    try simp only [Act.put, List.setIfInBounds_toArray, List.set_cons_zero, List.set_cons_succ]
    refine wpAnyH_take (i := 22) (oi := ?tko22) (v := ?tkv22) ?tkh22 (by kernel_rfl) (by kernel_rfl) (by kernel_rfl) ?tkq22 ?tky22 hHeld ?tkr22
    case tkh22 => (simp only [List.getElem?_toArray, List.getElem?_cons_succ, List.getElem?_cons_zero]; rfl)
    case tkq22 => exact fun _ _ _ h => h
    case tky22 => exact Or.inl ⟨by rfl, by intro wSw hSw; (try dsimp only at hSw); go_simp; try with_reducible rfl⟩
    try simp only [Act.put, List.setIfInBounds_toArray, List.set_cons_zero, List.set_cons_succ]
    refine wpAnyH_take (i := 23) (oi := ?tko23) (v := ?tkv23) ?tkh23 (by kernel_rfl) (by kernel_rfl) (by kernel_rfl) ?tkq23 ?tky23 hHeld ?tkr23
    case tkh23 => (simp only [List.getElem?_toArray, List.getElem?_cons_succ, List.getElem?_cons_zero]; rfl)
    case tkq23 => exact fun _ _ _ h => h
    case tky23 => exact Or.inl ⟨by rfl, by intro wSw hSw; (try dsimp only at hSw); go_simp; try with_reducible rfl⟩
    try simp only [Act.put, List.setIfInBounds_toArray, List.set_cons_zero, List.set_cons_succ]
    refine wpAnyH_ready (rs := [21]) (by kernel_rfl) (by simp) ?_
    refine AllReadyH.cons (o := ?tko24) ?tkh24 (fun Kt24 hKt24 => ?_) AllReadyH.nil
    case tkh24 => (simp only [List.getElem?_toArray, List.getElem?_cons_succ, List.getElem?_cons_zero]; rfl)
    go_simp
    (go_at_call 12; refine HLE.out.mono ?_; rintro e v7 ⟨rfl, rfl⟩)
    refine hKt24.out _ _ ?_ (fun hHt24 => ?_)
    · (exact HH.out)
    clear hKt24 Kt24 hHeld
    have hHeld := hHt24
    clear hHt24
    try simp only [Act.put, List.setIfInBounds_toArray, List.set_cons_zero, List.set_cons_succ]
    refine wpAnyH_take (i := 24) (oi := ?tko25) (v := ?tkv25) ?tkh25 (by kernel_rfl) (by kernel_rfl) (by kernel_rfl) ?tkq25 ?tky25 hHeld ?tkr25
    case tkh25 => (simp only [List.getElem?_toArray, List.getElem?_cons_succ, List.getElem?_cons_zero]; rfl)
    case tkq25 => exact fun _ _ _ h => h
    case tky25 => exact Or.inl ⟨by rfl, by intro wSw hSw; (try dsimp only at hSw); go_simp; try with_reducible rfl⟩
    try simp only [Act.put, List.setIfInBounds_toArray, List.set_cons_zero, List.set_cons_succ]
    refine wpAnyH_take (i := 25) (oi := ?tko26) (v := ?tkv26) ?tkh26 (by kernel_rfl) (by kernel_rfl) (by kernel_rfl) ?tkq26 ?tky26 hHeld ?tkr26
    case tkh26 => (simp only [List.getElem?_toArray, List.getElem?_cons_succ, List.getElem?_cons_zero]; rfl)
    case tkq26 => exact fun _ _ _ h => h
    case tky26 => exact Or.inl ⟨by rfl, by intro wSw hSw; (try dsimp only at hSw); go_simp; try with_reducible rfl⟩
    try simp only [Act.put, List.setIfInBounds_toArray, List.set_cons_zero, List.set_cons_succ]
    refine wpAnyH_done (by kernel_rfl) ?_ _
    clear hHeld
    go_wp2_with fail
    go_roundw
    case rel => exact ⟨i + 1, N', by omega, by go_num, by omega, HLV.out, HRV.out, HBV.out⟩
    case measure => simp [intOf]; omega
end Go.Proofs.Ytidailkpkcgmjaa.Src
