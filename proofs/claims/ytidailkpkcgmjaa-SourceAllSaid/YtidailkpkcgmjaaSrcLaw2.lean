/-
  The walk of the law SourceAll (stage 11). Written by wip/tools/genall11.py. By an AI agent.
-/
import Derived.Test.YtidailkpkcgmjaaSrcAwake
import Derived.Test.YtidailkpkcgmjaaSkips
namespace Go.Proofs.Ytidailkpkcgmjaa.Src
open Go.RowKit Go.Proofs.Ytidailkpkcgmjaa.Ints Go.Proofs.Ytidailkpkcgmjaa.Mem

theorem take_more {bs : List Int} {a K : Nat} (_h : a + K ≤ bs.length) : bs.take a ++ (bs.drop a).take K = bs.take (a + K) := by rw [List.take_add]
set_option maxHeartbeats 16000000 in
set_option maxRecDepth 100000 in
theorem lawAll (A : Option Addr) (n c : Nat) (bs : List Int) (B : Option Addr) (m d : Nat) (sc : List Int) (fault : Int) (M : Option Addr) (ml mc : Nat) (ms : List Int) (w : World) (hnc : n ≤ c) (hc : c ≤ maxLen) (h : Rd .u8 w A n bs) (hs : Rd .i64 w B m sc)
    (hn : n ≤ 140737488351232) (hm : m * 8 ≤ 140737488351232) (hml : ml ≤ maxLen) (hM : Rd .u8 w M ml ms) :
    Calls Try.prog 4 #[.slice A n c, .slice B m d, .int .i64 fault, .slice M ml mc] w fun e w' => e = .returned (.bool true) ∧ Below w.heap.size w w' := by
  have q63 : maxLen = 9223372036854775807 := rfl
  obtain ⟨i0, hi0, hz0, hz1, hz2⟩ := info_parts infoB
  have HN := Lib.hid (landNew A n c bs B m d sc fault w hnc hc h hs hn hm)
  have HM := Lib.hid hM
  have HA := Lib.hid h
  have HBS := Lib.hid h.all
  have HBL := Lib.hid h.len
  have hfn := fault_le n fault
  obtain ⟨f, hf⟩ : ∃ f, faultP n fault = f := ⟨_, rfl⟩
  have hfd : (0 ≤ fault ∧ fault < (n : Int) ∧ fault = (f : Int)) ∨ (fault < 0 ∧ n = f) ∨ (0 ≤ fault ∧ ¬ fault < (n : Int) ∧ n = f) := by
    unfold faultP at hf
    split at hf
    · by_cases e : fault < 0
      · exact Or.inr (Or.inl ⟨e, hf⟩)
      · exact Or.inr (Or.inr ⟨by omega, by omega, hf⟩)
    · by_cases e : fault < (n : Int)
      · exact Or.inl ⟨by omega, e, by omega⟩
      · exact Or.inr (Or.inr ⟨by omega, e, by omega⟩)
  rw [hf] at HN hfn
  have hli : (ml : Int) ≤ 9223372036854775807 := by omega
  clear h hs hM hf
  go_enter Try.func4, Try.ntmps4
  go_wp2_with fail
  refine HN.out.mono ?_
  rintro e w1 ⟨g, rfl, hS1, hgL, hB1⟩
  have hgl := hS1.lt
  obtain ⟨SL, hSL⟩ : ∃ SL, (fun b => w.heap.size ≤ b ∧ b < w1.heap.size ∧ b ≠ g) = SL := ⟨_, rfl⟩
  have HSL := Lib.hid (show ∀ b, SL b → b < w1.heap.size from fun b hb => by rw [← hSL] at hb; exact hb.2.1)
  rw [hSL] at hS1
  have HS1 := Lib.hid hS1
  have HB1 := Lib.hid hB1
  clear hS1 hB1 HN hSL
  rcases hfd with ⟨hf1, hf2, hf3⟩ | ⟨hf1, hf2⟩ | ⟨hf1, hf3, hf2⟩
  · subst hf3
    obtain ⟨want, hwant⟩ : ∃ want : Nat, want = 10 := ⟨_, rfl⟩
    have HW := Lib.hid (show readE bs.length f (f : Int) 1 = want by rw [HBL.out, hwant]; unfold readE; rw [if_neg (by omega), if_neg (by omega), if_pos (by omega)])
    have HWV := Lib.hid hwant
    skip
    clear hwant
    go_wp2_with fail
    go_loopw [12, 35] (fun v iv wr => ∃ i a : Nat, i ≤ f ∧ iv = .int .i64 i ∧ i ≤ a ∧ a ≤ f ∧ wr.ownsRow w1.heap.size 5 1 v a ((bs.take a).map (Value.int .u8)) ∧ LSrc SL wr g bs sc f i ∧ Below w.heap.size w wr ∧ w1.heap.size ≤ wr.heap.size) (fun _ iv _ => f - (intOf iv).toNat)
    case atStart => exact ⟨0, 0, Nat.zero_le _, rfl, Nat.le_refl _, Nat.zero_le _, World.ownsRow_nil _ _ _ _, HS1.out, HB1.out, Nat.le_refl _⟩
    case round =>
      obtain ⟨i, a, hi, rfl, hia, haf, hrow, hls, hBr, hw1⟩ := hrel
      obtain ⟨A2, c2, rfl, -⟩ := own_slice hrow
      by_cases hgo : i < f ∧ a < f
      · obtain ⟨hif, haf2⟩ := hgo
        have haf' : ¬ ((a : Int) ≥ (f : Int)) := by omega
        have hif' : (i : Int) < (f : Int) := by omega
        have hfc : (f : Int) ≤ 140737488351232 := by omega
        by_cases hm0 : ml = 0
        · have hm0' : ¬ ((ml : Int) > 0) := by omega
          clear hm0
          have hrz : readE bs.length f (a : Int) (1) = 0 := by rw [HBL.out]; unfold readE; rw [if_neg (by omega), if_neg (by omega), if_neg (by omega)]
          obtain ⟨k1, k2, -, k4⟩ := readK_bd sc i (by rw [HBL.out]; exact hfn) hrz
          have hln := readL_len sc i (bs := bs) (by rw [HBL.out]; exact hfn) hrz
          have HLR := Lib.hid (landRead SL g bs sc f i (a : Int) (1) wr hls (by omega) ⟨by omega, by omega⟩ ⟨by omega, by omega⟩ (by rw [HBL.out]; exact hn))
          have hL : readL bs f sc i (a : Int) (1) = (bs.drop a).take (readK f sc i (a : Int) (1)) := by unfold readL; rw [if_pos hrz, Int.toNat_natCast]
          obtain ⟨K, hK⟩ : ∃ K, readK f sc i (a : Int) (1) = K := ⟨_, rfl⟩
          rw [hK] at k1 k2 k4 hln hL
          have hak : a + K ≤ f := by omega
          have HLN := Lib.hid hln
          have HLL := Lib.hid hL
          have HRZ := Lib.hid hrz
          have HRW := Lib.hid hrow
          have HBR := Lib.hid hBr
          clear hrz hln hL hK k2 hrow hls hBr
          go_wp2_with fail
          refine HLR.out.mono ?_
          rintro e w4 ⟨v4, rfl, hown4, hls4, hgr4⟩
          rw [HLN.out, HLL.out] at hown4
          rw [HRZ.out]
          rw [show readN bs.length f i (a : Int) (1) = i + 1 by unfold readN; rw [HRZ.out, if_pos rfl]] at hls4
          obtain ⟨A4, c4, rfl, -⟩ := own_slice hown4
          have hB4 := HBR.out.trans (below_grown hgr4 HBR.out.size (by omega))
          have hrow4 := HRW.out.kept hgr4 (by
            by_cases e : (Value.slice A2 a c2).ownBlock = some g
            · exfalso
              have := (HRW.out.lt g e).1
              omega
            · exact Or.inr e)
          have HRD := Lib.hid (landReads SL g bs sc f (i + 1) w4 hls4)
          have HL4 := Lib.hid hls4
          have HR4 := Lib.hid hrow4
          have HB4 := Lib.hid hB4
          have HX4 := Lib.hid (Rd.own hown4 (fun z hz => HBS.out z (List.mem_of_mem_drop (List.mem_of_mem_take hz))))
          have hk1 : ((K : Int) == 0) = false := by simp; omega
          have hk4 : ¬ ((K : Int) > 1) := by omega
          have hs4 : w1.heap.size ≤ w4.heap.size := Nat.le_trans hw1 hgr4.size
          clear hown4 hls4 hgr4 hB4 hrow4 HLR HRW
          go_wp2_with fail
          refine HRD.out.mono ?_
          rintro e w5 ⟨rfl, rfl⟩
          have hiw : ((i + 1 : Nat) : Int) = (i : Int) + 1 := by omega
          rw [hiw]
          clear hiw
          go_wp2_with (at_builtin; refine wpList_append_ints rfl _ _ 22 rfl .u8 w1.heap.size 5 i0 1 Try.underlying22 hi0 hz0 hz1 hz2 _ _ _ rfl HR4.out _ _ _ ((bs.drop a).take K) rfl HX4.out (by omega) (by omega) hs4 ?_; intro v6 w6 hown6 hgr6)
          go_roundw
          case rel =>
            have hob : ∀ q, (Value.slice A2 a c2).ownBlock = some q → w1.heap.size ≤ q := fun q hq => (HR4.out.lt q hq).1
            refine ⟨i + 1, a + K, by omega, by go_num, by omega, hak, ?_, HL4.out.kept hgr6 (fun e => by have := hob g e.symm; omega) (fun b hb e => by have := hob b e.symm; have := HSL.out b hb; omega), HB4.out.grown hgr6 HB4.out.size (fun q hq => by have := hob q hq; have := HB1.out.size; omega), Nat.le_trans hs4 hgr6.size⟩
            rw [take_more (by rw [HBL.out]; omega)] at hown6
            exact hown6
          case measure => simp [intOf]; omega
        obtain ⟨mi, hmi1, hmi2⟩ : ∃ mi : Nat, (i : Int) % (ml : Int) = (mi : Int) ∧ mi < ml := ⟨i % ml, by rw [Int.natCast_emod], Nat.mod_lt _ (by omega)⟩
        obtain ⟨bM, oM, hMe, hcM⟩ := (HM.out.below hBr).cell (by omega)
        have xM := hcM mi hmi2
        have hzb := HM.out.u8 mi hmi2
        obtain ⟨z, hz⟩ : ∃ z, ms[mi]?.getD 0 = z := ⟨_, rfl⟩
        rw [hz] at xM hzb
        obtain ⟨zb0, zb1⟩ := hzb
        have hml0 : ((ml : Int) == 0) = false := by simp; omega
        subst hMe
        have hm0' : (ml : Int) > 0 := by omega
        clear hm0
        have hrz : readE bs.length f (a : Int) (1 + z) = 0 := by rw [HBL.out]; unfold readE; rw [if_neg (by omega), if_neg (by omega), if_neg (by omega)]
        obtain ⟨k1, k2, -, k4⟩ := readK_bd sc i (by rw [HBL.out]; exact hfn) hrz
        have hln := readL_len sc i (bs := bs) (by rw [HBL.out]; exact hfn) hrz
        have HLR := Lib.hid (landRead SL g bs sc f i (a : Int) (1 + z) wr hls (by omega) ⟨by omega, by omega⟩ ⟨by omega, by omega⟩ (by rw [HBL.out]; exact hn))
        have hL : readL bs f sc i (a : Int) (1 + z) = (bs.drop a).take (readK f sc i (a : Int) (1 + z)) := by unfold readL; rw [if_pos hrz, Int.toNat_natCast]
        obtain ⟨K, hK⟩ : ∃ K, readK f sc i (a : Int) (1 + z) = K := ⟨_, rfl⟩
        rw [hK] at k1 k2 k4 hln hL
        have hak : a + K ≤ f := by omega
        have HLN := Lib.hid hln
        have HLL := Lib.hid hL
        have HRZ := Lib.hid hrz
        have HRW := Lib.hid hrow
        have HBR := Lib.hid hBr
        clear hrz hln hL hK k2 hrow hls hBr hcM hz
        go_wp2_with fail
        refine HLR.out.mono ?_
        rintro e w4 ⟨v4, rfl, hown4, hls4, hgr4⟩
        rw [HLN.out, HLL.out] at hown4
        rw [HRZ.out]
        rw [show readN bs.length f i (a : Int) (1 + z) = i + 1 by unfold readN; rw [HRZ.out, if_pos rfl]] at hls4
        obtain ⟨A4, c4, rfl, -⟩ := own_slice hown4
        have hB4 := HBR.out.trans (below_grown hgr4 HBR.out.size (by omega))
        have hrow4 := HRW.out.kept hgr4 (by
          by_cases e : (Value.slice A2 a c2).ownBlock = some g
          · exfalso
            have := (HRW.out.lt g e).1
            omega
          · exact Or.inr e)
        have HRD := Lib.hid (landReads SL g bs sc f (i + 1) w4 hls4)
        have HL4 := Lib.hid hls4
        have HR4 := Lib.hid hrow4
        have HB4 := Lib.hid hB4
        have HX4 := Lib.hid (Rd.own hown4 (fun z hz => HBS.out z (List.mem_of_mem_drop (List.mem_of_mem_take hz))))
        have hk1 : ((K : Int) == 0) = false := by simp; omega
        have hk4 : ¬ ((K : Int) > 1 + z) := by omega
        have hs4 : w1.heap.size ≤ w4.heap.size := Nat.le_trans hw1 hgr4.size
        clear hown4 hls4 hgr4 hB4 hrow4 HLR HRW
        go_wp2_with fail
        refine HRD.out.mono ?_
        rintro e w5 ⟨rfl, rfl⟩
        have hiw : ((i + 1 : Nat) : Int) = (i : Int) + 1 := by omega
        rw [hiw]
        clear hiw
        go_wp2_with (at_builtin; refine wpList_append_ints rfl _ _ 22 rfl .u8 w1.heap.size 5 i0 1 Try.underlying22 hi0 hz0 hz1 hz2 _ _ _ rfl HR4.out _ _ _ ((bs.drop a).take K) rfl HX4.out (by omega) (by omega) hs4 ?_; intro v6 w6 hown6 hgr6)
        go_roundw
        case rel =>
          have hob : ∀ q, (Value.slice A2 a c2).ownBlock = some q → w1.heap.size ≤ q := fun q hq => (HR4.out.lt q hq).1
          refine ⟨i + 1, a + K, by omega, by go_num, by omega, hak, ?_, HL4.out.kept hgr6 (fun e => by have := hob g e.symm; omega) (fun b hb e => by have := hob b e.symm; have := HSL.out b hb; omega), HB4.out.grown hgr6 HB4.out.size (fun q hq => by have := hob q hq; have := HB1.out.size; omega), Nat.le_trans hs4 hgr6.size⟩
          rw [take_more (by rw [HBL.out]; omega)] at hown6
          exact hown6
        case measure => simp [intOf]; omega
      by_cases hif : i < f
      · have hae : f = a := by omega
        subst hae
        have hst : (i : Int) < (f : Int) := by omega
        clear hif
        have HRE := Lib.hid (landRead SL g bs sc f i (f : Int) 1 wr hls (by omega) ⟨by omega, by omega⟩ ⟨by omega, by omega⟩ (by rw [HBL.out]; exact hn))
        have HRW := Lib.hid hrow
        have HBR := Lib.hid hBr
        clear hrow hls hBr hgo
        go_wp2_with fail
        refine HRE.out.mono ?_
        rintro e w4 ⟨v4, rfl, -, hls4, hgr4⟩
        have hwz : want ≠ 0 := by have := HWV.out; omega
        rw [HW.out, HWV.out]
        rw [show readN bs.length f i (f : Int) 1 = i by unfold readN; rw [HW.out, if_neg hwz]] at hls4
        have hB4 := HBR.out.trans (below_grown hgr4 HBR.out.size (by omega))
        have hrow4 := HRW.out.kept hgr4 (by
          by_cases e : (Value.slice A2 f c2).ownBlock = some g
          · exfalso
            have := (HRW.out.lt g e).1
            omega
          · exact Or.inr e)
        obtain ⟨V, hV⟩ : ∃ V, V = w4.drew := ⟨_, rfl⟩
        have HBV := Lib.hid (show Below w4.heap.size w4 V by rw [hV]; exact (Below.refl _ _).drew)
        have hlsV := hls4.below HBV.out
        have hBV := hB4.trans (HBV.out.mono hB4.size)
        obtain ⟨s, hs⟩ : ∃ s, strOfNums (bs.take f) = s := ⟨_, rfl⟩
        have hta : ∀ z ∈ bs.take f, (Lit.int .u8 z).wf = true := fun z hz => HBS.out z (List.mem_of_mem_take hz)
        have HCV := Lib.hid (show ∀ W, Below V.heap.size V W → (convert 22 9 (.slice A2 f c2)).run Try.prog W = .ok (.string s) W from fun W hW => by rw [← hs]; exact conv_own (below_row (below_row hrow4 HBV.out) hW) hta)
        have HCW := Lib.hid (show ∀ W, Below V.heap.size V W → (convert 22 9 (.slice A f c)).run Try.prog W = .ok (.string s) W from fun W hW => by
          rw [← hs]
          exact run_str _ _ _ Try.underlying22 Try.underlying5 Try.underlying9 (((HA.out.take (m := f) (by omega)).below hBV).below hW))
        have hsl := fun W => slice_upto (P := Try.prog) 22 (by kernel_rfl) 1 (by kernel_rfl) A n c f (by omega) W
        have HRD := Lib.hid (landReads SL g bs sc f i V hlsV)
        have HBW := Lib.hid hBV
        have hia' : (i : Int) ≤ (f : Int) := by omega
        clear hs hta hls4 hgr4 hB4 hrow4 hlsV hBV HRE HRW
        go_wp2_with fail
        refine wp_region_held_drew (S := fun W => (convert 22 9 (.slice A2 f c2)).run Try.prog W = .ok (.string s) W ∧ (convert 22 9 (.slice A f c)).run Try.prog W = .ok (.string s) W) (by kernel_rfl) (by rw [← hV]; exact ⟨HCV.out V (Below.refl _ _), HCW.out V (Below.refl _ _)⟩) (fun hHeld => ?_)
        rw [← hV] at hHeld ⊢
        clear hV
        have HH := Lib.hid hHeld
        refine wpAnyH_take (i := 0) (oi := ?tko1) (v := ?tkv1) ?tkh1 (by kernel_rfl) (by kernel_rfl) (by kernel_rfl) ?tkq1 ?tky1 hHeld ?tkr1
        case tkh1 => (simp only [List.getElem?_toArray, List.getElem?_cons_zero]; rfl)
        case tkq1 => exact fun _ _ _ h => h
        case tky1 => exact Or.inl ⟨by rfl, by intro wSw hSw; (try dsimp only at hSw); go_simp; try with_reducible rfl⟩
        try simp only [Act.put, List.setIfInBounds_toArray, List.set_cons_zero, List.set_cons_succ]
        refine wpAnyH_take (i := 1) (oi := ?tko2) (v := ?tkv2) ?tkh2 (by kernel_rfl) (by kernel_rfl) (by kernel_rfl) ?tkq2 ?tky2 hHeld ?tkr2
        case tkh2 => (simp only [List.getElem?_toArray, List.getElem?_cons_succ, List.getElem?_cons_zero]; rfl)
        case tkq2 => exact fun _ _ _ h => h
        case tky2 => exact Or.inl ⟨by rfl, by intro wSw hSw; (try dsimp only at hSw); go_simp; try with_reducible rfl⟩
        try simp only [Act.put, List.setIfInBounds_toArray, List.set_cons_zero, List.set_cons_succ]
        refine wpAnyH_take (i := 2) (oi := ?tko3) (v := ?tkv3) ?tkh3 (by kernel_rfl) (by kernel_rfl) (by kernel_rfl) ?tkq3 ?tky3 hHeld ?tkr3
        case tkh3 => (simp only [List.getElem?_toArray, List.getElem?_cons_succ, List.getElem?_cons_zero]; rfl)
        case tkq3 => exact fun _ _ _ h => h
        case tky3 => exact Or.inl ⟨by rfl, by intro wSw hSw; (try dsimp only at hSw); go_simp; try with_reducible rfl⟩
        try simp only [Act.put, List.setIfInBounds_toArray, List.set_cons_zero, List.set_cons_succ]
        refine wpAnyH_take (i := 3) (oi := ?tko4) (v := ?tkv4) ?tkh4 (by kernel_rfl) (by kernel_rfl) (by kernel_rfl) ?tkq4 ?tky4 hHeld ?tkr4
        case tkh4 => (simp only [List.getElem?_toArray, List.getElem?_cons_succ, List.getElem?_cons_zero]; rfl)
        case tkq4 => exact fun _ _ _ h => h
        case tky4 => exact Or.inl ⟨by rfl, by intro wSw hSw; (try dsimp only at hSw); go_simp; try with_reducible rfl⟩
        try simp only [Act.put, List.setIfInBounds_toArray, List.set_cons_zero, List.set_cons_succ]
        refine wpAnyH_take (i := 4) (oi := ?tko5) (v := ?tkv5) ?tkh5 (by kernel_rfl) (by kernel_rfl) (by kernel_rfl) ?tkq5 ?tky5 hHeld ?tkr5
        case tkh5 => (simp only [List.getElem?_toArray, List.getElem?_cons_succ, List.getElem?_cons_zero]; rfl)
        case tkq5 => exact fun _ _ _ h => h
        case tky5 => exact Or.inl ⟨by rfl, by intro wSw hSw; (try dsimp only at hSw); go_simp; try with_reducible rfl⟩
        try simp only [Act.put, List.setIfInBounds_toArray, List.set_cons_zero, List.set_cons_succ]
        refine wpAnyH_take (i := 5) (oi := ?tko6) (v := ?tkv6) ?tkh6 (by kernel_rfl) (by kernel_rfl) (by kernel_rfl) ?tkq6 ?tky6 hHeld ?tkr6
        case tkh6 => (simp only [List.getElem?_toArray, List.getElem?_cons_succ, List.getElem?_cons_zero]; rfl)
        case tkq6 => exact fun _ _ _ h => h
        case tky6 => exact Or.inl ⟨by rfl, by intro wSw hSw; (try dsimp only at hSw); go_simp; try with_reducible rfl⟩
        try simp only [Act.put, List.setIfInBounds_toArray, List.set_cons_zero, List.set_cons_succ]
        refine wpAnyH_take (i := 6) (oi := ?tko7) (v := ?tkv7) ?tkh7 (by kernel_rfl) (by kernel_rfl) (by kernel_rfl) ?tkq7 ?tky7 hHeld ?tkr7
        case tkh7 => (simp only [List.getElem?_toArray, List.getElem?_cons_succ, List.getElem?_cons_zero]; rfl)
        case tkq7 => exact fun _ _ _ h => h
        case tky7 => exact Or.inl ⟨by rfl, by intro wSw hSw; (try dsimp only at hSw); go_simp; try with_reducible rfl⟩
        try simp only [Act.put, List.setIfInBounds_toArray, List.set_cons_zero, List.set_cons_succ]
        refine wpAnyH_take (i := 7) (oi := ?tko8) (v := ?tkv8) ?tkh8 (by kernel_rfl) (by kernel_rfl) (by kernel_rfl) ?tkq8 ?tky8 hHeld ?tkr8
        case tkh8 => (simp only [List.getElem?_toArray, List.getElem?_cons_succ, List.getElem?_cons_zero]; rfl)
        case tkq8 => exact fun _ _ _ h => h
        case tky8 => exact Or.inl ⟨by rfl, by intro wSw hSw; (try dsimp only at hSw); go_simp; try with_reducible rfl⟩
        try simp only [Act.put, List.setIfInBounds_toArray, List.set_cons_zero, List.set_cons_succ]
        refine wpAnyH_take (i := 8) (oi := ?tko9) (v := ?tkv9) ?tkh9 (by kernel_rfl) (by kernel_rfl) (by kernel_rfl) ?tkq9 ?tky9 hHeld ?tkr9
        case tkh9 => (simp only [List.getElem?_toArray, List.getElem?_cons_succ, List.getElem?_cons_zero]; rfl)
        case tkq9 => exact fun _ _ _ h => h
        case tky9 => exact Or.inl ⟨by rfl, by intro wSw hSw; (try dsimp only at hSw); go_simp; try with_reducible rfl⟩
        try simp only [Act.put, List.setIfInBounds_toArray, List.set_cons_zero, List.set_cons_succ]
        refine wpAnyH_take (i := 9) (oi := ?tko10) (v := ?tkv10) ?tkh10 (by kernel_rfl) (by kernel_rfl) (by kernel_rfl) ?tkq10 ?tky10 hHeld ?tkr10
        case tkh10 => (simp only [List.getElem?_toArray, List.getElem?_cons_succ, List.getElem?_cons_zero]; rfl)
        case tkq10 => exact fun _ _ _ h => h
        case tky10 => exact Or.inl ⟨by rfl, by intro wSw hSw; (try dsimp only at hSw); go_simp; try with_reducible rfl⟩
        try simp only [Act.put, List.setIfInBounds_toArray, List.set_cons_zero, List.set_cons_succ]
        refine wpAnyH_take (i := 10) (oi := ?tko11) (v := ?tkv11) ?tkh11 (by kernel_rfl) (by kernel_rfl) (by kernel_rfl) ?tkq11 ?tky11 hHeld ?tkr11
        case tkh11 => (simp only [List.getElem?_toArray, List.getElem?_cons_succ, List.getElem?_cons_zero]; rfl)
        case tkq11 => exact fun _ _ _ h => h
        case tky11 => exact Or.inl ⟨by rfl, by intro wSw hSw; (try dsimp only at hSw); go_simp; try with_reducible rfl⟩
        try simp only [Act.put, List.setIfInBounds_toArray, List.set_cons_zero, List.set_cons_succ]
        refine wpAnyH_take (i := 11) (oi := ?tko12) (v := ?tkv12) ?tkh12 (by kernel_rfl) (by kernel_rfl) (by kernel_rfl) ?tkq12 ?tky12 hHeld ?tkr12
        case tkh12 => (simp only [List.getElem?_toArray, List.getElem?_cons_succ, List.getElem?_cons_zero]; rfl)
        case tkq12 => exact fun _ _ _ h => h
        case tky12 => exact Or.inl ⟨by rfl, by intro wSw hSw; (try dsimp only at hSw); go_simp; try with_reducible rfl⟩
        try simp only [Act.put, List.setIfInBounds_toArray, List.set_cons_zero, List.set_cons_succ]
        refine wpAnyH_take (i := 12) (oi := ?tko13) (v := ?tkv13) ?tkh13 (by kernel_rfl) (by kernel_rfl) (by kernel_rfl) ?tkq13 ?tky13 hHeld ?tkr13
        case tkh13 => (simp only [List.getElem?_toArray, List.getElem?_cons_succ, List.getElem?_cons_zero]; rfl)
        case tkq13 => exact fun _ _ _ h => h
        case tky13 => exact Or.inl ⟨by rfl, by intro wSw hSw; (try dsimp only at hSw); go_simp; try with_reducible rfl⟩
        try simp only [Act.put, List.setIfInBounds_toArray, List.set_cons_zero, List.set_cons_succ]
        refine wpAnyH_take (i := 13) (oi := ?tko14) (v := ?tkv14) ?tkh14 (by kernel_rfl) (by kernel_rfl) (by kernel_rfl) ?tkq14 ?tky14 hHeld ?tkr14
        case tkh14 => (simp only [List.getElem?_toArray, List.getElem?_cons_succ, List.getElem?_cons_zero]; rfl)
        case tkq14 => exact fun _ _ _ h => h
        case tky14 => exact Or.inl ⟨by rfl, by intro wSw hSw; (try dsimp only at hSw); go_simp; try with_reducible rfl⟩
        try simp only [Act.put, List.setIfInBounds_toArray, List.set_cons_zero, List.set_cons_succ]
        refine wpAnyH_take (i := 15) (oi := ?tko15) (v := ?tkv15) ?tkh15 (by kernel_rfl) (by kernel_rfl) (by kernel_rfl) ?tkq15 ?tky15 hHeld ?tkr15
        case tkh15 => (simp only [List.getElem?_toArray, List.getElem?_cons_succ, List.getElem?_cons_zero]; rfl)
        case tkq15 => exact fun _ _ _ h => h
        case tky15 => exact Or.inl ⟨by rfl, by intro wSw hSw; (try dsimp only at hSw); go_simp; try with_reducible rfl⟩
        try simp only [Act.put, List.setIfInBounds_toArray, List.set_cons_zero, List.set_cons_succ]
        refine wpAnyH_ready (rs := [14]) (by kernel_rfl) (by simp) ?_
        refine AllReadyH.cons (o := ?tko16) ?tkh16 (fun Kt16 hKt16 => ?_) AllReadyH.nil
        case tkh16 => (simp only [List.getElem?_toArray, List.getElem?_cons_succ, List.getElem?_cons_zero]; rfl)
        go_simp
        (go_at_call 11; refine HRD.out.mono ?_; rintro e v6 ⟨rfl, rfl⟩)
        refine hKt16.out _ _ ?_ (fun hHt16 => ?_)
        · (exact HH.out)
        clear hKt16 Kt16 hHeld
        have hHeld := hHt16
        clear hHt16
        try simp only [Act.put, List.setIfInBounds_toArray, List.set_cons_zero, List.set_cons_succ]
        refine wpAnyH_take (i := 16) (oi := ?tko17) (v := ?tkv17) ?tkh17 (by kernel_rfl) (by kernel_rfl) (by kernel_rfl) ?tkq17 ?tky17 hHeld ?tkr17
        case tkh17 => (simp only [List.getElem?_toArray, List.getElem?_cons_succ, List.getElem?_cons_zero]; rfl)
        case tkq17 => exact fun _ _ _ h => h
        case tky17 => exact Or.inl ⟨by rfl, by intro wSw hSw; (try dsimp only at hSw); go_simp; try with_reducible rfl⟩
        try simp only [Act.put, List.setIfInBounds_toArray, List.set_cons_zero, List.set_cons_succ]
        refine wpAnyH_take (i := 17) (oi := ?tko18) (v := ?tkv18) ?tkh18 (by kernel_rfl) (by kernel_rfl) (by kernel_rfl) ?tkq18 ?tky18 hHeld ?tkr18
        case tkh18 => (simp only [List.getElem?_toArray, List.getElem?_cons_succ, List.getElem?_cons_zero]; rfl)
        case tkq18 => exact fun _ _ _ h => h
        case tky18 => exact Or.inl ⟨by rfl, by intro wSw hSw; (try dsimp only at hSw); go_simp; try with_reducible rfl⟩
        try simp only [Act.put, List.setIfInBounds_toArray, List.set_cons_zero, List.set_cons_succ]
        refine wpAnyH_take (i := 18) (oi := ?tko19) (v := ?tkv19) ?tkh19 (by kernel_rfl) (by kernel_rfl) (by kernel_rfl) ?tkq19 ?tky19 hHeld ?tkr19
        case tkh19 => (simp only [List.getElem?_toArray, List.getElem?_cons_succ, List.getElem?_cons_zero]; rfl)
        case tkq19 => exact fun _ _ _ h => h
        case tky19 => exact Or.inl ⟨by rfl, by intro wSw hSw; (try dsimp only at hSw); go_simp; try with_reducible rfl⟩
        try simp only [Act.put, List.setIfInBounds_toArray, List.set_cons_zero, List.set_cons_succ]
        refine wpAnyH_ready (rs := [19]) (by kernel_rfl) (by simp) ?_
        refine AllReadyH.cons (o := ?tko20) ?tkh20 (fun Kt20 hKt20 => ?_) AllReadyH.nil
        case tkh20 => (simp only [List.getElem?_toArray, List.getElem?_cons_succ, List.getElem?_cons_zero]; rfl)
        go_simp
        (go_at_call 13; refine (lawAwake _).mono ?_; rintro e v7 ⟨rfl, hd7⟩)
        refine hKt20.out _ _ ?_ (fun hHt20 => ?_)
        · (exact ⟨HCV.out _ hd7, HCW.out _ hd7⟩)
        clear hKt20 Kt20 hHeld
        have hHeld := hHt20
        clear hHt20
        try simp only [Act.put, List.setIfInBounds_toArray, List.set_cons_zero, List.set_cons_succ]
        refine wpAnyH_take (i := 20) (oi := ?tko21) (v := ?tkv21) ?tkh21 (by kernel_rfl) (by kernel_rfl) (by kernel_rfl) ?tkq21 ?tky21 hHeld ?tkr21
        case tkh21 => (simp only [List.getElem?_toArray, List.getElem?_cons_succ, List.getElem?_cons_zero]; rfl)
        case tkq21 => exact fun _ _ _ h => h
        case tky21 => exact Or.inl ⟨by rfl, by intro wSw hSw; (try dsimp only at hSw); go_simp; try with_reducible rfl⟩
        try simp only [Act.put, List.setIfInBounds_toArray, List.set_cons_zero, List.set_cons_succ]
        refine wpAnyH_take (i := 21) (oi := ?tko22) (v := ?tkv22) ?tkh22 (by kernel_rfl) (by kernel_rfl) (by kernel_rfl) ?tkq22 ?tky22 hHeld ?tkr22
        case tkh22 => (simp only [List.getElem?_toArray, List.getElem?_cons_succ, List.getElem?_cons_zero]; rfl)
        case tkq22 => exact fun _ _ _ h => h
        case tky22 => exact Or.inl ⟨by rfl, by intro wSw hSw; (try dsimp only at hSw); go_simp; try with_reducible rfl⟩
        try simp only [Act.put, List.setIfInBounds_toArray, List.set_cons_zero, List.set_cons_succ]
        refine wpAnyH_done (by kernel_rfl) ?_ _
        clear hHeld
        go_wp2
        go_ret
        exact ⟨rfl, HBW.out.trans (hd7.mono HBW.out.size)⟩
      · have hae : f = a := by omega
        subst hae
        have hst : ¬ ((i : Int) < (f : Int)) := by omega
        clear hif
        have HRE := Lib.hid (landRead SL g bs sc f i (f : Int) 1 wr hls (by omega) ⟨by omega, by omega⟩ ⟨by omega, by omega⟩ (by rw [HBL.out]; exact hn))
        have HRW := Lib.hid hrow
        have HBR := Lib.hid hBr
        clear hrow hls hBr hgo
        go_wp2_with fail
        refine HRE.out.mono ?_
        rintro e w4 ⟨v4, rfl, -, hls4, hgr4⟩
        have hwz : want ≠ 0 := by have := HWV.out; omega
        rw [HW.out, HWV.out]
        rw [show readN bs.length f i (f : Int) 1 = i by unfold readN; rw [HW.out, if_neg hwz]] at hls4
        have hB4 := HBR.out.trans (below_grown hgr4 HBR.out.size (by omega))
        have hrow4 := HRW.out.kept hgr4 (by
          by_cases e : (Value.slice A2 f c2).ownBlock = some g
          · exfalso
            have := (HRW.out.lt g e).1
            omega
          · exact Or.inr e)
        obtain ⟨V, hV⟩ : ∃ V, V = w4.drew := ⟨_, rfl⟩
        have HBV := Lib.hid (show Below w4.heap.size w4 V by rw [hV]; exact (Below.refl _ _).drew)
        have hlsV := hls4.below HBV.out
        have hBV := hB4.trans (HBV.out.mono hB4.size)
        obtain ⟨s, hs⟩ : ∃ s, strOfNums (bs.take f) = s := ⟨_, rfl⟩
        have hta : ∀ z ∈ bs.take f, (Lit.int .u8 z).wf = true := fun z hz => HBS.out z (List.mem_of_mem_take hz)
        have HCV := Lib.hid (show ∀ W, Below V.heap.size V W → (convert 22 9 (.slice A2 f c2)).run Try.prog W = .ok (.string s) W from fun W hW => by rw [← hs]; exact conv_own (below_row (below_row hrow4 HBV.out) hW) hta)
        have HCW := Lib.hid (show ∀ W, Below V.heap.size V W → (convert 22 9 (.slice A f c)).run Try.prog W = .ok (.string s) W from fun W hW => by
          rw [← hs]
          exact run_str _ _ _ Try.underlying22 Try.underlying5 Try.underlying9 (((HA.out.take (m := f) (by omega)).below hBV).below hW))
        have hsl := fun W => slice_upto (P := Try.prog) 22 (by kernel_rfl) 1 (by kernel_rfl) A n c f (by omega) W
        have HRD := Lib.hid (landReads SL g bs sc f i V hlsV)
        have HBW := Lib.hid hBV
        have hia' : (i : Int) ≤ (f : Int) := by omega
        clear hs hta hls4 hgr4 hB4 hrow4 hlsV hBV HRE HRW
        go_wp2_with fail
        refine wp_region_held_drew (S := fun W => (convert 22 9 (.slice A2 f c2)).run Try.prog W = .ok (.string s) W ∧ (convert 22 9 (.slice A f c)).run Try.prog W = .ok (.string s) W) (by kernel_rfl) (by rw [← hV]; exact ⟨HCV.out V (Below.refl _ _), HCW.out V (Below.refl _ _)⟩) (fun hHeld => ?_)
        rw [← hV] at hHeld ⊢
        clear hV
        have HH := Lib.hid hHeld
        refine wpAnyH_take (i := 0) (oi := ?tko23) (v := ?tkv23) ?tkh23 (by kernel_rfl) (by kernel_rfl) (by kernel_rfl) ?tkq23 ?tky23 hHeld ?tkr23
        case tkh23 => (simp only [List.getElem?_toArray, List.getElem?_cons_zero]; rfl)
        case tkq23 => exact fun _ _ _ h => h
        case tky23 => exact Or.inl ⟨by rfl, by intro wSw hSw; (try dsimp only at hSw); go_simp; try with_reducible rfl⟩
        try simp only [Act.put, List.setIfInBounds_toArray, List.set_cons_zero, List.set_cons_succ]
        refine wpAnyH_take (i := 1) (oi := ?tko24) (v := ?tkv24) ?tkh24 (by kernel_rfl) (by kernel_rfl) (by kernel_rfl) ?tkq24 ?tky24 hHeld ?tkr24
        case tkh24 => (simp only [List.getElem?_toArray, List.getElem?_cons_succ, List.getElem?_cons_zero]; rfl)
        case tkq24 => exact fun _ _ _ h => h
        case tky24 => exact Or.inl ⟨by rfl, by intro wSw hSw; (try dsimp only at hSw); go_simp; try with_reducible rfl⟩
        try simp only [Act.put, List.setIfInBounds_toArray, List.set_cons_zero, List.set_cons_succ]
        refine wpAnyH_take (i := 2) (oi := ?tko25) (v := ?tkv25) ?tkh25 (by kernel_rfl) (by kernel_rfl) (by kernel_rfl) ?tkq25 ?tky25 hHeld ?tkr25
        case tkh25 => (simp only [List.getElem?_toArray, List.getElem?_cons_succ, List.getElem?_cons_zero]; rfl)
        case tkq25 => exact fun _ _ _ h => h
        case tky25 => exact Or.inl ⟨by rfl, by intro wSw hSw; (try dsimp only at hSw); go_simp; try with_reducible rfl⟩
        try simp only [Act.put, List.setIfInBounds_toArray, List.set_cons_zero, List.set_cons_succ]
        refine wpAnyH_take (i := 3) (oi := ?tko26) (v := ?tkv26) ?tkh26 (by kernel_rfl) (by kernel_rfl) (by kernel_rfl) ?tkq26 ?tky26 hHeld ?tkr26
        case tkh26 => (simp only [List.getElem?_toArray, List.getElem?_cons_succ, List.getElem?_cons_zero]; rfl)
        case tkq26 => exact fun _ _ _ h => h
        case tky26 => exact Or.inl ⟨by rfl, by intro wSw hSw; (try dsimp only at hSw); go_simp; try with_reducible rfl⟩
        try simp only [Act.put, List.setIfInBounds_toArray, List.set_cons_zero, List.set_cons_succ]
        refine wpAnyH_take (i := 4) (oi := ?tko27) (v := ?tkv27) ?tkh27 (by kernel_rfl) (by kernel_rfl) (by kernel_rfl) ?tkq27 ?tky27 hHeld ?tkr27
        case tkh27 => (simp only [List.getElem?_toArray, List.getElem?_cons_succ, List.getElem?_cons_zero]; rfl)
        case tkq27 => exact fun _ _ _ h => h
        case tky27 => exact Or.inl ⟨by rfl, by intro wSw hSw; (try dsimp only at hSw); go_simp; try with_reducible rfl⟩
        try simp only [Act.put, List.setIfInBounds_toArray, List.set_cons_zero, List.set_cons_succ]
        refine wpAnyH_take (i := 5) (oi := ?tko28) (v := ?tkv28) ?tkh28 (by kernel_rfl) (by kernel_rfl) (by kernel_rfl) ?tkq28 ?tky28 hHeld ?tkr28
        case tkh28 => (simp only [List.getElem?_toArray, List.getElem?_cons_succ, List.getElem?_cons_zero]; rfl)
        case tkq28 => exact fun _ _ _ h => h
        case tky28 => exact Or.inl ⟨by rfl, by intro wSw hSw; (try dsimp only at hSw); go_simp; try with_reducible rfl⟩
        try simp only [Act.put, List.setIfInBounds_toArray, List.set_cons_zero, List.set_cons_succ]
        refine wpAnyH_take (i := 6) (oi := ?tko29) (v := ?tkv29) ?tkh29 (by kernel_rfl) (by kernel_rfl) (by kernel_rfl) ?tkq29 ?tky29 hHeld ?tkr29
        case tkh29 => (simp only [List.getElem?_toArray, List.getElem?_cons_succ, List.getElem?_cons_zero]; rfl)
        case tkq29 => exact fun _ _ _ h => h
        case tky29 => exact Or.inl ⟨by rfl, by intro wSw hSw; (try dsimp only at hSw); go_simp; try with_reducible rfl⟩
        try simp only [Act.put, List.setIfInBounds_toArray, List.set_cons_zero, List.set_cons_succ]
        refine wpAnyH_take (i := 7) (oi := ?tko30) (v := ?tkv30) ?tkh30 (by kernel_rfl) (by kernel_rfl) (by kernel_rfl) ?tkq30 ?tky30 hHeld ?tkr30
        case tkh30 => (simp only [List.getElem?_toArray, List.getElem?_cons_succ, List.getElem?_cons_zero]; rfl)
        case tkq30 => exact fun _ _ _ h => h
        case tky30 => exact Or.inl ⟨by rfl, by intro wSw hSw; (try dsimp only at hSw); go_simp; try with_reducible rfl⟩
        try simp only [Act.put, List.setIfInBounds_toArray, List.set_cons_zero, List.set_cons_succ]
        refine wpAnyH_take (i := 8) (oi := ?tko31) (v := ?tkv31) ?tkh31 (by kernel_rfl) (by kernel_rfl) (by kernel_rfl) ?tkq31 ?tky31 hHeld ?tkr31
        case tkh31 => (simp only [List.getElem?_toArray, List.getElem?_cons_succ, List.getElem?_cons_zero]; rfl)
        case tkq31 => exact fun _ _ _ h => h
        case tky31 => exact Or.inl ⟨by rfl, by intro wSw hSw; (try dsimp only at hSw); go_simp; try with_reducible rfl⟩
        try simp only [Act.put, List.setIfInBounds_toArray, List.set_cons_zero, List.set_cons_succ]
        refine wpAnyH_take (i := 9) (oi := ?tko32) (v := ?tkv32) ?tkh32 (by kernel_rfl) (by kernel_rfl) (by kernel_rfl) ?tkq32 ?tky32 hHeld ?tkr32
        case tkh32 => (simp only [List.getElem?_toArray, List.getElem?_cons_succ, List.getElem?_cons_zero]; rfl)
        case tkq32 => exact fun _ _ _ h => h
        case tky32 => exact Or.inl ⟨by rfl, by intro wSw hSw; (try dsimp only at hSw); go_simp; try with_reducible rfl⟩
        try simp only [Act.put, List.setIfInBounds_toArray, List.set_cons_zero, List.set_cons_succ]
        refine wpAnyH_take (i := 10) (oi := ?tko33) (v := ?tkv33) ?tkh33 (by kernel_rfl) (by kernel_rfl) (by kernel_rfl) ?tkq33 ?tky33 hHeld ?tkr33
        case tkh33 => (simp only [List.getElem?_toArray, List.getElem?_cons_succ, List.getElem?_cons_zero]; rfl)
        case tkq33 => exact fun _ _ _ h => h
        case tky33 => exact Or.inl ⟨by rfl, by intro wSw hSw; (try dsimp only at hSw); go_simp; try with_reducible rfl⟩
        try simp only [Act.put, List.setIfInBounds_toArray, List.set_cons_zero, List.set_cons_succ]
        refine wpAnyH_take (i := 11) (oi := ?tko34) (v := ?tkv34) ?tkh34 (by kernel_rfl) (by kernel_rfl) (by kernel_rfl) ?tkq34 ?tky34 hHeld ?tkr34
        case tkh34 => (simp only [List.getElem?_toArray, List.getElem?_cons_succ, List.getElem?_cons_zero]; rfl)
        case tkq34 => exact fun _ _ _ h => h
        case tky34 => exact Or.inl ⟨by rfl, by intro wSw hSw; (try dsimp only at hSw); go_simp; try with_reducible rfl⟩
        try simp only [Act.put, List.setIfInBounds_toArray, List.set_cons_zero, List.set_cons_succ]
        refine wpAnyH_take (i := 12) (oi := ?tko35) (v := ?tkv35) ?tkh35 (by kernel_rfl) (by kernel_rfl) (by kernel_rfl) ?tkq35 ?tky35 hHeld ?tkr35
        case tkh35 => (simp only [List.getElem?_toArray, List.getElem?_cons_succ, List.getElem?_cons_zero]; rfl)
        case tkq35 => exact fun _ _ _ h => h
        case tky35 => exact Or.inl ⟨by rfl, by intro wSw hSw; (try dsimp only at hSw); go_simp; try with_reducible rfl⟩
        try simp only [Act.put, List.setIfInBounds_toArray, List.set_cons_zero, List.set_cons_succ]
        refine wpAnyH_take (i := 13) (oi := ?tko36) (v := ?tkv36) ?tkh36 (by kernel_rfl) (by kernel_rfl) (by kernel_rfl) ?tkq36 ?tky36 hHeld ?tkr36
        case tkh36 => (simp only [List.getElem?_toArray, List.getElem?_cons_succ, List.getElem?_cons_zero]; rfl)
        case tkq36 => exact fun _ _ _ h => h
        case tky36 => exact Or.inl ⟨by rfl, by intro wSw hSw; (try dsimp only at hSw); go_simp; try with_reducible rfl⟩
        try simp only [Act.put, List.setIfInBounds_toArray, List.set_cons_zero, List.set_cons_succ]
        refine wpAnyH_take (i := 15) (oi := ?tko37) (v := ?tkv37) ?tkh37 (by kernel_rfl) (by kernel_rfl) (by kernel_rfl) ?tkq37 ?tky37 hHeld ?tkr37
        case tkh37 => (simp only [List.getElem?_toArray, List.getElem?_cons_succ, List.getElem?_cons_zero]; rfl)
        case tkq37 => exact fun _ _ _ h => h
        case tky37 => exact Or.inl ⟨by rfl, by intro wSw hSw; (try dsimp only at hSw); go_simp; try with_reducible rfl⟩
        try simp only [Act.put, List.setIfInBounds_toArray, List.set_cons_zero, List.set_cons_succ]
        refine wpAnyH_ready (rs := [14]) (by kernel_rfl) (by simp) ?_
        refine AllReadyH.cons (o := ?tko38) ?tkh38 (fun Kt38 hKt38 => ?_) AllReadyH.nil
        case tkh38 => (simp only [List.getElem?_toArray, List.getElem?_cons_succ, List.getElem?_cons_zero]; rfl)
        go_simp
        (go_at_call 11; refine HRD.out.mono ?_; rintro e v6 ⟨rfl, rfl⟩)
        refine hKt38.out _ _ ?_ (fun hHt38 => ?_)
        · (exact HH.out)
        clear hKt38 Kt38 hHeld
        have hHeld := hHt38
        clear hHt38
        try simp only [Act.put, List.setIfInBounds_toArray, List.set_cons_zero, List.set_cons_succ]
        refine wpAnyH_take (i := 16) (oi := ?tko39) (v := ?tkv39) ?tkh39 (by kernel_rfl) (by kernel_rfl) (by kernel_rfl) ?tkq39 ?tky39 hHeld ?tkr39
        case tkh39 => (simp only [List.getElem?_toArray, List.getElem?_cons_succ, List.getElem?_cons_zero]; rfl)
        case tkq39 => exact fun _ _ _ h => h
        case tky39 => exact Or.inl ⟨by rfl, by intro wSw hSw; (try dsimp only at hSw); go_simp; try with_reducible rfl⟩
        try simp only [Act.put, List.setIfInBounds_toArray, List.set_cons_zero, List.set_cons_succ]
        refine wpAnyH_take (i := 17) (oi := ?tko40) (v := ?tkv40) ?tkh40 (by kernel_rfl) (by kernel_rfl) (by kernel_rfl) ?tkq40 ?tky40 hHeld ?tkr40
        case tkh40 => (simp only [List.getElem?_toArray, List.getElem?_cons_succ, List.getElem?_cons_zero]; rfl)
        case tkq40 => exact fun _ _ _ h => h
        case tky40 => exact Or.inl ⟨by rfl, by intro wSw hSw; (try dsimp only at hSw); go_simp; try with_reducible rfl⟩
        try simp only [Act.put, List.setIfInBounds_toArray, List.set_cons_zero, List.set_cons_succ]
        refine wpAnyH_take (i := 18) (oi := ?tko41) (v := ?tkv41) ?tkh41 (by kernel_rfl) (by kernel_rfl) (by kernel_rfl) ?tkq41 ?tky41 hHeld ?tkr41
        case tkh41 => (simp only [List.getElem?_toArray, List.getElem?_cons_succ, List.getElem?_cons_zero]; rfl)
        case tkq41 => exact fun _ _ _ h => h
        case tky41 => exact Or.inl ⟨by rfl, by intro wSw hSw; (try dsimp only at hSw); go_simp; try with_reducible rfl⟩
        try simp only [Act.put, List.setIfInBounds_toArray, List.set_cons_zero, List.set_cons_succ]
        refine wpAnyH_ready (rs := [19]) (by kernel_rfl) (by simp) ?_
        refine AllReadyH.cons (o := ?tko42) ?tkh42 (fun Kt42 hKt42 => ?_) AllReadyH.nil
        case tkh42 => (simp only [List.getElem?_toArray, List.getElem?_cons_succ, List.getElem?_cons_zero]; rfl)
        go_simp
        (go_at_call 13; refine (lawAwake _).mono ?_; rintro e v7 ⟨rfl, hd7⟩)
        refine hKt42.out _ _ ?_ (fun hHt42 => ?_)
        · (exact ⟨HCV.out _ hd7, HCW.out _ hd7⟩)
        clear hKt42 Kt42 hHeld
        have hHeld := hHt42
        clear hHt42
        try simp only [Act.put, List.setIfInBounds_toArray, List.set_cons_zero, List.set_cons_succ]
        refine wpAnyH_take (i := 20) (oi := ?tko43) (v := ?tkv43) ?tkh43 (by kernel_rfl) (by kernel_rfl) (by kernel_rfl) ?tkq43 ?tky43 hHeld ?tkr43
        case tkh43 => (simp only [List.getElem?_toArray, List.getElem?_cons_succ, List.getElem?_cons_zero]; rfl)
        case tkq43 => exact fun _ _ _ h => h
        case tky43 => exact Or.inl ⟨by rfl, by intro wSw hSw; (try dsimp only at hSw); go_simp; try with_reducible rfl⟩
        try simp only [Act.put, List.setIfInBounds_toArray, List.set_cons_zero, List.set_cons_succ]
        refine wpAnyH_take (i := 21) (oi := ?tko44) (v := ?tkv44) ?tkh44 (by kernel_rfl) (by kernel_rfl) (by kernel_rfl) ?tkq44 ?tky44 hHeld ?tkr44
        case tkh44 => (simp only [List.getElem?_toArray, List.getElem?_cons_succ, List.getElem?_cons_zero]; rfl)
        case tkq44 => exact fun _ _ _ h => h
        case tky44 => exact Or.inl ⟨by rfl, by intro wSw hSw; (try dsimp only at hSw); go_simp; try with_reducible rfl⟩
        try simp only [Act.put, List.setIfInBounds_toArray, List.set_cons_zero, List.set_cons_succ]
        refine wpAnyH_done (by kernel_rfl) ?_ _
        clear hHeld
        go_wp2
        go_ret
        exact ⟨rfl, HBW.out.trans (hd7.mono HBW.out.size)⟩
  · subst hf2
    obtain ⟨want, hwant⟩ : ∃ want : Nat, want = 13 := ⟨_, rfl⟩
    have HW := Lib.hid (show readE bs.length n (n : Int) 1 = want by rw [HBL.out, hwant]; unfold readE; rw [if_neg (by omega), if_pos (by omega)])
    have HWV := Lib.hid hwant
    skip
    clear hwant
    go_wp2_with fail
    go_loopw [12, 35] (fun v iv wr => ∃ i a : Nat, i ≤ n ∧ iv = .int .i64 i ∧ i ≤ a ∧ a ≤ n ∧ wr.ownsRow w1.heap.size 5 1 v a ((bs.take a).map (Value.int .u8)) ∧ LSrc SL wr g bs sc n i ∧ Below w.heap.size w wr ∧ w1.heap.size ≤ wr.heap.size) (fun _ iv _ => n - (intOf iv).toNat)
    case atStart => exact ⟨0, 0, Nat.zero_le _, rfl, Nat.le_refl _, Nat.zero_le _, World.ownsRow_nil _ _ _ _, HS1.out, HB1.out, Nat.le_refl _⟩
    case round =>
      obtain ⟨i, a, hi, rfl, hia, haf, hrow, hls, hBr, hw1⟩ := hrel
      obtain ⟨A2, c2, rfl, -⟩ := own_slice hrow
      by_cases hgo : i < n ∧ a < n
      · obtain ⟨hif, haf2⟩ := hgo
        have haf' : ¬ ((a : Int) ≥ (n : Int)) := by omega
        have hif' : (i : Int) < (n : Int) := by omega
        have hfc : (n : Int) ≤ 140737488351232 := by omega
        by_cases hm0 : ml = 0
        · have hm0' : ¬ ((ml : Int) > 0) := by omega
          clear hm0
          have hrz : readE bs.length n (a : Int) (1) = 0 := by rw [HBL.out]; unfold readE; rw [if_neg (by omega), if_neg (by omega), if_neg (by omega)]
          obtain ⟨k1, k2, -, k4⟩ := readK_bd sc i (by rw [HBL.out]; exact hfn) hrz
          have hln := readL_len sc i (bs := bs) (by rw [HBL.out]; exact hfn) hrz
          have HLR := Lib.hid (landRead SL g bs sc n i (a : Int) (1) wr hls (by omega) ⟨by omega, by omega⟩ ⟨by omega, by omega⟩ (by rw [HBL.out]; exact hn))
          have hL : readL bs n sc i (a : Int) (1) = (bs.drop a).take (readK n sc i (a : Int) (1)) := by unfold readL; rw [if_pos hrz, Int.toNat_natCast]
          obtain ⟨K, hK⟩ : ∃ K, readK n sc i (a : Int) (1) = K := ⟨_, rfl⟩
          rw [hK] at k1 k2 k4 hln hL
          have hak : a + K ≤ n := by omega
          have HLN := Lib.hid hln
          have HLL := Lib.hid hL
          have HRZ := Lib.hid hrz
          have HRW := Lib.hid hrow
          have HBR := Lib.hid hBr
          clear hrz hln hL hK k2 hrow hls hBr
          go_wp2_with fail
          refine HLR.out.mono ?_
          rintro e w4 ⟨v4, rfl, hown4, hls4, hgr4⟩
          rw [HLN.out, HLL.out] at hown4
          rw [HRZ.out]
          rw [show readN bs.length n i (a : Int) (1) = i + 1 by unfold readN; rw [HRZ.out, if_pos rfl]] at hls4
          obtain ⟨A4, c4, rfl, -⟩ := own_slice hown4
          have hB4 := HBR.out.trans (below_grown hgr4 HBR.out.size (by omega))
          have hrow4 := HRW.out.kept hgr4 (by
            by_cases e : (Value.slice A2 a c2).ownBlock = some g
            · exfalso
              have := (HRW.out.lt g e).1
              omega
            · exact Or.inr e)
          have HRD := Lib.hid (landReads SL g bs sc n (i + 1) w4 hls4)
          have HL4 := Lib.hid hls4
          have HR4 := Lib.hid hrow4
          have HB4 := Lib.hid hB4
          have HX4 := Lib.hid (Rd.own hown4 (fun z hz => HBS.out z (List.mem_of_mem_drop (List.mem_of_mem_take hz))))
          have hk1 : ((K : Int) == 0) = false := by simp; omega
          have hk4 : ¬ ((K : Int) > 1) := by omega
          have hs4 : w1.heap.size ≤ w4.heap.size := Nat.le_trans hw1 hgr4.size
          clear hown4 hls4 hgr4 hB4 hrow4 HLR HRW
          go_wp2_with fail
          refine HRD.out.mono ?_
          rintro e w5 ⟨rfl, rfl⟩
          have hiw : ((i + 1 : Nat) : Int) = (i : Int) + 1 := by omega
          rw [hiw]
          clear hiw
          go_wp2_with (at_builtin; refine wpList_append_ints rfl _ _ 22 rfl .u8 w1.heap.size 5 i0 1 Try.underlying22 hi0 hz0 hz1 hz2 _ _ _ rfl HR4.out _ _ _ ((bs.drop a).take K) rfl HX4.out (by omega) (by omega) hs4 ?_; intro v6 w6 hown6 hgr6)
          go_roundw
          case rel =>
            have hob : ∀ q, (Value.slice A2 a c2).ownBlock = some q → w1.heap.size ≤ q := fun q hq => (HR4.out.lt q hq).1
            refine ⟨i + 1, a + K, by omega, by go_num, by omega, hak, ?_, HL4.out.kept hgr6 (fun e => by have := hob g e.symm; omega) (fun b hb e => by have := hob b e.symm; have := HSL.out b hb; omega), HB4.out.grown hgr6 HB4.out.size (fun q hq => by have := hob q hq; have := HB1.out.size; omega), Nat.le_trans hs4 hgr6.size⟩
            rw [take_more (by rw [HBL.out]; omega)] at hown6
            exact hown6
          case measure => simp [intOf]; omega
        obtain ⟨mi, hmi1, hmi2⟩ : ∃ mi : Nat, (i : Int) % (ml : Int) = (mi : Int) ∧ mi < ml := ⟨i % ml, by rw [Int.natCast_emod], Nat.mod_lt _ (by omega)⟩
        obtain ⟨bM, oM, hMe, hcM⟩ := (HM.out.below hBr).cell (by omega)
        have xM := hcM mi hmi2
        have hzb := HM.out.u8 mi hmi2
        obtain ⟨z, hz⟩ : ∃ z, ms[mi]?.getD 0 = z := ⟨_, rfl⟩
        rw [hz] at xM hzb
        obtain ⟨zb0, zb1⟩ := hzb
        have hml0 : ((ml : Int) == 0) = false := by simp; omega
        subst hMe
        have hm0' : (ml : Int) > 0 := by omega
        clear hm0
        have hrz : readE bs.length n (a : Int) (1 + z) = 0 := by rw [HBL.out]; unfold readE; rw [if_neg (by omega), if_neg (by omega), if_neg (by omega)]
        obtain ⟨k1, k2, -, k4⟩ := readK_bd sc i (by rw [HBL.out]; exact hfn) hrz
        have hln := readL_len sc i (bs := bs) (by rw [HBL.out]; exact hfn) hrz
        have HLR := Lib.hid (landRead SL g bs sc n i (a : Int) (1 + z) wr hls (by omega) ⟨by omega, by omega⟩ ⟨by omega, by omega⟩ (by rw [HBL.out]; exact hn))
        have hL : readL bs n sc i (a : Int) (1 + z) = (bs.drop a).take (readK n sc i (a : Int) (1 + z)) := by unfold readL; rw [if_pos hrz, Int.toNat_natCast]
        obtain ⟨K, hK⟩ : ∃ K, readK n sc i (a : Int) (1 + z) = K := ⟨_, rfl⟩
        rw [hK] at k1 k2 k4 hln hL
        have hak : a + K ≤ n := by omega
        have HLN := Lib.hid hln
        have HLL := Lib.hid hL
        have HRZ := Lib.hid hrz
        have HRW := Lib.hid hrow
        have HBR := Lib.hid hBr
        clear hrz hln hL hK k2 hrow hls hBr hcM hz
        go_wp2_with fail
        refine HLR.out.mono ?_
        rintro e w4 ⟨v4, rfl, hown4, hls4, hgr4⟩
        rw [HLN.out, HLL.out] at hown4
        rw [HRZ.out]
        rw [show readN bs.length n i (a : Int) (1 + z) = i + 1 by unfold readN; rw [HRZ.out, if_pos rfl]] at hls4
        obtain ⟨A4, c4, rfl, -⟩ := own_slice hown4
        have hB4 := HBR.out.trans (below_grown hgr4 HBR.out.size (by omega))
        have hrow4 := HRW.out.kept hgr4 (by
          by_cases e : (Value.slice A2 a c2).ownBlock = some g
          · exfalso
            have := (HRW.out.lt g e).1
            omega
          · exact Or.inr e)
        have HRD := Lib.hid (landReads SL g bs sc n (i + 1) w4 hls4)
        have HL4 := Lib.hid hls4
        have HR4 := Lib.hid hrow4
        have HB4 := Lib.hid hB4
        have HX4 := Lib.hid (Rd.own hown4 (fun z hz => HBS.out z (List.mem_of_mem_drop (List.mem_of_mem_take hz))))
        have hk1 : ((K : Int) == 0) = false := by simp; omega
        have hk4 : ¬ ((K : Int) > 1 + z) := by omega
        have hs4 : w1.heap.size ≤ w4.heap.size := Nat.le_trans hw1 hgr4.size
        clear hown4 hls4 hgr4 hB4 hrow4 HLR HRW
        go_wp2_with fail
        refine HRD.out.mono ?_
        rintro e w5 ⟨rfl, rfl⟩
        have hiw : ((i + 1 : Nat) : Int) = (i : Int) + 1 := by omega
        rw [hiw]
        clear hiw
        go_wp2_with (at_builtin; refine wpList_append_ints rfl _ _ 22 rfl .u8 w1.heap.size 5 i0 1 Try.underlying22 hi0 hz0 hz1 hz2 _ _ _ rfl HR4.out _ _ _ ((bs.drop a).take K) rfl HX4.out (by omega) (by omega) hs4 ?_; intro v6 w6 hown6 hgr6)
        go_roundw
        case rel =>
          have hob : ∀ q, (Value.slice A2 a c2).ownBlock = some q → w1.heap.size ≤ q := fun q hq => (HR4.out.lt q hq).1
          refine ⟨i + 1, a + K, by omega, by go_num, by omega, hak, ?_, HL4.out.kept hgr6 (fun e => by have := hob g e.symm; omega) (fun b hb e => by have := hob b e.symm; have := HSL.out b hb; omega), HB4.out.grown hgr6 HB4.out.size (fun q hq => by have := hob q hq; have := HB1.out.size; omega), Nat.le_trans hs4 hgr6.size⟩
          rw [take_more (by rw [HBL.out]; omega)] at hown6
          exact hown6
        case measure => simp [intOf]; omega
      by_cases hif : i < n
      · have hae : n = a := by omega
        subst hae
        have hst : (i : Int) < (n : Int) := by omega
        clear hif
        have HRE := Lib.hid (landRead SL g bs sc n i (n : Int) 1 wr hls (by omega) ⟨by omega, by omega⟩ ⟨by omega, by omega⟩ (by rw [HBL.out]; exact hn))
        have HRW := Lib.hid hrow
        have HBR := Lib.hid hBr
        clear hrow hls hBr hgo
        go_wp2_with fail
        refine HRE.out.mono ?_
        rintro e w4 ⟨v4, rfl, -, hls4, hgr4⟩
        have hwz : want ≠ 0 := by have := HWV.out; omega
        rw [HW.out, HWV.out]
        rw [show readN bs.length n i (n : Int) 1 = i by unfold readN; rw [HW.out, if_neg hwz]] at hls4
        have hB4 := HBR.out.trans (below_grown hgr4 HBR.out.size (by omega))
        have hrow4 := HRW.out.kept hgr4 (by
          by_cases e : (Value.slice A2 n c2).ownBlock = some g
          · exfalso
            have := (HRW.out.lt g e).1
            omega
          · exact Or.inr e)
        obtain ⟨V, hV⟩ : ∃ V, V = w4.drew := ⟨_, rfl⟩
        have HBV := Lib.hid (show Below w4.heap.size w4 V by rw [hV]; exact (Below.refl _ _).drew)
        have hlsV := hls4.below HBV.out
        have hBV := hB4.trans (HBV.out.mono hB4.size)
        obtain ⟨s, hs⟩ : ∃ s, strOfNums (bs.take n) = s := ⟨_, rfl⟩
        have hta : ∀ z ∈ bs.take n, (Lit.int .u8 z).wf = true := fun z hz => HBS.out z (List.mem_of_mem_take hz)
        have HCV := Lib.hid (show ∀ W, Below V.heap.size V W → (convert 22 9 (.slice A2 n c2)).run Try.prog W = .ok (.string s) W from fun W hW => by rw [← hs]; exact conv_own (below_row (below_row hrow4 HBV.out) hW) hta)
        have HCW := Lib.hid (show ∀ W, Below V.heap.size V W → (convert 22 9 (.slice A n c)).run Try.prog W = .ok (.string s) W from fun W hW => by
          rw [← hs]
          exact run_str _ _ _ Try.underlying22 Try.underlying5 Try.underlying9 (((HA.out.take (m := n) (by omega)).below hBV).below hW))
        have hsl := fun W => slice_upto (P := Try.prog) 22 (by kernel_rfl) 1 (by kernel_rfl) A n c n (by omega) W
        have HRD := Lib.hid (landReads SL g bs sc n i V hlsV)
        have HBW := Lib.hid hBV
        have hia' : (i : Int) ≤ (n : Int) := by omega
        clear hs hta hls4 hgr4 hB4 hrow4 hlsV hBV HRE HRW
        go_wp2_with fail
        refine wp_region_held_drew (S := fun W => (convert 22 9 (.slice A2 n c2)).run Try.prog W = .ok (.string s) W ∧ (convert 22 9 (.slice A n c)).run Try.prog W = .ok (.string s) W) (by kernel_rfl) (by rw [← hV]; exact ⟨HCV.out V (Below.refl _ _), HCW.out V (Below.refl _ _)⟩) (fun hHeld => ?_)
        rw [← hV] at hHeld ⊢
        clear hV
        have HH := Lib.hid hHeld
        refine wpAnyH_take (i := 0) (oi := ?tko45) (v := ?tkv45) ?tkh45 (by kernel_rfl) (by kernel_rfl) (by kernel_rfl) ?tkq45 ?tky45 hHeld ?tkr45
        case tkh45 => (simp only [List.getElem?_toArray, List.getElem?_cons_zero]; rfl)
        case tkq45 => exact fun _ _ _ h => h
        case tky45 => exact Or.inl ⟨by rfl, by intro wSw hSw; (try dsimp only at hSw); go_simp; try with_reducible rfl⟩
        try simp only [Act.put, List.setIfInBounds_toArray, List.set_cons_zero, List.set_cons_succ]
        refine wpAnyH_take (i := 1) (oi := ?tko46) (v := ?tkv46) ?tkh46 (by kernel_rfl) (by kernel_rfl) (by kernel_rfl) ?tkq46 ?tky46 hHeld ?tkr46
        case tkh46 => (simp only [List.getElem?_toArray, List.getElem?_cons_succ, List.getElem?_cons_zero]; rfl)
        case tkq46 => exact fun _ _ _ h => h
        case tky46 => exact Or.inl ⟨by rfl, by intro wSw hSw; (try dsimp only at hSw); go_simp; try with_reducible rfl⟩
        try simp only [Act.put, List.setIfInBounds_toArray, List.set_cons_zero, List.set_cons_succ]
        refine wpAnyH_take (i := 2) (oi := ?tko47) (v := ?tkv47) ?tkh47 (by kernel_rfl) (by kernel_rfl) (by kernel_rfl) ?tkq47 ?tky47 hHeld ?tkr47
        case tkh47 => (simp only [List.getElem?_toArray, List.getElem?_cons_succ, List.getElem?_cons_zero]; rfl)
        case tkq47 => exact fun _ _ _ h => h
        case tky47 => exact Or.inl ⟨by rfl, by intro wSw hSw; (try dsimp only at hSw); go_simp; try with_reducible rfl⟩
        try simp only [Act.put, List.setIfInBounds_toArray, List.set_cons_zero, List.set_cons_succ]
        refine wpAnyH_take (i := 3) (oi := ?tko48) (v := ?tkv48) ?tkh48 (by kernel_rfl) (by kernel_rfl) (by kernel_rfl) ?tkq48 ?tky48 hHeld ?tkr48
        case tkh48 => (simp only [List.getElem?_toArray, List.getElem?_cons_succ, List.getElem?_cons_zero]; rfl)
        case tkq48 => exact fun _ _ _ h => h
        case tky48 => exact Or.inl ⟨by rfl, by intro wSw hSw; (try dsimp only at hSw); go_simp; try with_reducible rfl⟩
        try simp only [Act.put, List.setIfInBounds_toArray, List.set_cons_zero, List.set_cons_succ]
        refine wpAnyH_take (i := 4) (oi := ?tko49) (v := ?tkv49) ?tkh49 (by kernel_rfl) (by kernel_rfl) (by kernel_rfl) ?tkq49 ?tky49 hHeld ?tkr49
        case tkh49 => (simp only [List.getElem?_toArray, List.getElem?_cons_succ, List.getElem?_cons_zero]; rfl)
        case tkq49 => exact fun _ _ _ h => h
        case tky49 => exact Or.inl ⟨by rfl, by intro wSw hSw; (try dsimp only at hSw); go_simp; try with_reducible rfl⟩
        try simp only [Act.put, List.setIfInBounds_toArray, List.set_cons_zero, List.set_cons_succ]
        refine wpAnyH_take (i := 5) (oi := ?tko50) (v := ?tkv50) ?tkh50 (by kernel_rfl) (by kernel_rfl) (by kernel_rfl) ?tkq50 ?tky50 hHeld ?tkr50
        case tkh50 => (simp only [List.getElem?_toArray, List.getElem?_cons_succ, List.getElem?_cons_zero]; rfl)
        case tkq50 => exact fun _ _ _ h => h
        case tky50 => exact Or.inl ⟨by rfl, by intro wSw hSw; (try dsimp only at hSw); go_simp; try with_reducible rfl⟩
        try simp only [Act.put, List.setIfInBounds_toArray, List.set_cons_zero, List.set_cons_succ]
        refine wpAnyH_take (i := 6) (oi := ?tko51) (v := ?tkv51) ?tkh51 (by kernel_rfl) (by kernel_rfl) (by kernel_rfl) ?tkq51 ?tky51 hHeld ?tkr51
        case tkh51 => (simp only [List.getElem?_toArray, List.getElem?_cons_succ, List.getElem?_cons_zero]; rfl)
        case tkq51 => exact fun _ _ _ h => h
        case tky51 => exact Or.inl ⟨by rfl, by intro wSw hSw; (try dsimp only at hSw); go_simp; try with_reducible rfl⟩
        try simp only [Act.put, List.setIfInBounds_toArray, List.set_cons_zero, List.set_cons_succ]
        refine wpAnyH_take (i := 7) (oi := ?tko52) (v := ?tkv52) ?tkh52 (by kernel_rfl) (by kernel_rfl) (by kernel_rfl) ?tkq52 ?tky52 hHeld ?tkr52
        case tkh52 => (simp only [List.getElem?_toArray, List.getElem?_cons_succ, List.getElem?_cons_zero]; rfl)
        case tkq52 => exact fun _ _ _ h => h
        case tky52 => exact Or.inl ⟨by rfl, by intro wSw hSw; (try dsimp only at hSw); go_simp; try with_reducible rfl⟩
        try simp only [Act.put, List.setIfInBounds_toArray, List.set_cons_zero, List.set_cons_succ]
        refine wpAnyH_take (i := 8) (oi := ?tko53) (v := ?tkv53) ?tkh53 (by kernel_rfl) (by kernel_rfl) (by kernel_rfl) ?tkq53 ?tky53 hHeld ?tkr53
        case tkh53 => (simp only [List.getElem?_toArray, List.getElem?_cons_succ, List.getElem?_cons_zero]; rfl)
        case tkq53 => exact fun _ _ _ h => h
        case tky53 => exact Or.inl ⟨by rfl, by intro wSw hSw; (try dsimp only at hSw); go_simp; try with_reducible rfl⟩
        try simp only [Act.put, List.setIfInBounds_toArray, List.set_cons_zero, List.set_cons_succ]
        refine wpAnyH_take (i := 9) (oi := ?tko54) (v := ?tkv54) ?tkh54 (by kernel_rfl) (by kernel_rfl) (by kernel_rfl) ?tkq54 ?tky54 hHeld ?tkr54
        case tkh54 => (simp only [List.getElem?_toArray, List.getElem?_cons_succ, List.getElem?_cons_zero]; rfl)
        case tkq54 => exact fun _ _ _ h => h
        case tky54 => exact Or.inl ⟨by rfl, by intro wSw hSw; (try dsimp only at hSw); go_simp; try with_reducible rfl⟩
        try simp only [Act.put, List.setIfInBounds_toArray, List.set_cons_zero, List.set_cons_succ]
        refine wpAnyH_take (i := 10) (oi := ?tko55) (v := ?tkv55) ?tkh55 (by kernel_rfl) (by kernel_rfl) (by kernel_rfl) ?tkq55 ?tky55 hHeld ?tkr55
        case tkh55 => (simp only [List.getElem?_toArray, List.getElem?_cons_succ, List.getElem?_cons_zero]; rfl)
        case tkq55 => exact fun _ _ _ h => h
        case tky55 => exact Or.inl ⟨by rfl, by intro wSw hSw; (try dsimp only at hSw); go_simp; try with_reducible rfl⟩
        try simp only [Act.put, List.setIfInBounds_toArray, List.set_cons_zero, List.set_cons_succ]
        refine wpAnyH_take (i := 11) (oi := ?tko56) (v := ?tkv56) ?tkh56 (by kernel_rfl) (by kernel_rfl) (by kernel_rfl) ?tkq56 ?tky56 hHeld ?tkr56
        case tkh56 => (simp only [List.getElem?_toArray, List.getElem?_cons_succ, List.getElem?_cons_zero]; rfl)
        case tkq56 => exact fun _ _ _ h => h
        case tky56 => exact Or.inl ⟨by rfl, by intro wSw hSw; (try dsimp only at hSw); go_simp; try with_reducible rfl⟩
        try simp only [Act.put, List.setIfInBounds_toArray, List.set_cons_zero, List.set_cons_succ]
        refine wpAnyH_take (i := 12) (oi := ?tko57) (v := ?tkv57) ?tkh57 (by kernel_rfl) (by kernel_rfl) (by kernel_rfl) ?tkq57 ?tky57 hHeld ?tkr57
        case tkh57 => (simp only [List.getElem?_toArray, List.getElem?_cons_succ, List.getElem?_cons_zero]; rfl)
        case tkq57 => exact fun _ _ _ h => h
        case tky57 => exact Or.inl ⟨by rfl, by intro wSw hSw; (try dsimp only at hSw); go_simp; try with_reducible rfl⟩
        try simp only [Act.put, List.setIfInBounds_toArray, List.set_cons_zero, List.set_cons_succ]
        refine wpAnyH_take (i := 13) (oi := ?tko58) (v := ?tkv58) ?tkh58 (by kernel_rfl) (by kernel_rfl) (by kernel_rfl) ?tkq58 ?tky58 hHeld ?tkr58
        case tkh58 => (simp only [List.getElem?_toArray, List.getElem?_cons_succ, List.getElem?_cons_zero]; rfl)
        case tkq58 => exact fun _ _ _ h => h
        case tky58 => exact Or.inl ⟨by rfl, by intro wSw hSw; (try dsimp only at hSw); go_simp; try with_reducible rfl⟩
        try simp only [Act.put, List.setIfInBounds_toArray, List.set_cons_zero, List.set_cons_succ]
        refine wpAnyH_take (i := 15) (oi := ?tko59) (v := ?tkv59) ?tkh59 (by kernel_rfl) (by kernel_rfl) (by kernel_rfl) ?tkq59 ?tky59 hHeld ?tkr59
        case tkh59 => (simp only [List.getElem?_toArray, List.getElem?_cons_succ, List.getElem?_cons_zero]; rfl)
        case tkq59 => exact fun _ _ _ h => h
        case tky59 => exact Or.inl ⟨by rfl, by intro wSw hSw; (try dsimp only at hSw); go_simp; try with_reducible rfl⟩
        try simp only [Act.put, List.setIfInBounds_toArray, List.set_cons_zero, List.set_cons_succ]
        refine wpAnyH_ready (rs := [14]) (by kernel_rfl) (by simp) ?_
        refine AllReadyH.cons (o := ?tko60) ?tkh60 (fun Kt60 hKt60 => ?_) AllReadyH.nil
        case tkh60 => (simp only [List.getElem?_toArray, List.getElem?_cons_succ, List.getElem?_cons_zero]; rfl)
        go_simp
        (go_at_call 11; refine HRD.out.mono ?_; rintro e v6 ⟨rfl, rfl⟩)
        refine hKt60.out _ _ ?_ (fun hHt60 => ?_)
        · (exact HH.out)
        clear hKt60 Kt60 hHeld
        have hHeld := hHt60
        clear hHt60
        try simp only [Act.put, List.setIfInBounds_toArray, List.set_cons_zero, List.set_cons_succ]
        refine wpAnyH_take (i := 16) (oi := ?tko61) (v := ?tkv61) ?tkh61 (by kernel_rfl) (by kernel_rfl) (by kernel_rfl) ?tkq61 ?tky61 hHeld ?tkr61
        case tkh61 => (simp only [List.getElem?_toArray, List.getElem?_cons_succ, List.getElem?_cons_zero]; rfl)
        case tkq61 => exact fun _ _ _ h => h
        case tky61 => exact Or.inl ⟨by rfl, by intro wSw hSw; (try dsimp only at hSw); go_simp; try with_reducible rfl⟩
        try simp only [Act.put, List.setIfInBounds_toArray, List.set_cons_zero, List.set_cons_succ]
        refine wpAnyH_take (i := 17) (oi := ?tko62) (v := ?tkv62) ?tkh62 (by kernel_rfl) (by kernel_rfl) (by kernel_rfl) ?tkq62 ?tky62 hHeld ?tkr62
        case tkh62 => (simp only [List.getElem?_toArray, List.getElem?_cons_succ, List.getElem?_cons_zero]; rfl)
        case tkq62 => exact fun _ _ _ h => h
        case tky62 => exact Or.inl ⟨by rfl, by intro wSw hSw; (try dsimp only at hSw); go_simp; try with_reducible rfl⟩
        try simp only [Act.put, List.setIfInBounds_toArray, List.set_cons_zero, List.set_cons_succ]
        refine wpAnyH_take (i := 18) (oi := ?tko63) (v := ?tkv63) ?tkh63 (by kernel_rfl) (by kernel_rfl) (by kernel_rfl) ?tkq63 ?tky63 hHeld ?tkr63
        case tkh63 => (simp only [List.getElem?_toArray, List.getElem?_cons_succ, List.getElem?_cons_zero]; rfl)
        case tkq63 => exact fun _ _ _ h => h
        case tky63 => exact Or.inl ⟨by rfl, by intro wSw hSw; (try dsimp only at hSw); go_simp; try with_reducible rfl⟩
        try simp only [Act.put, List.setIfInBounds_toArray, List.set_cons_zero, List.set_cons_succ]
        refine wpAnyH_ready (rs := [19]) (by kernel_rfl) (by simp) ?_
        refine AllReadyH.cons (o := ?tko64) ?tkh64 (fun Kt64 hKt64 => ?_) AllReadyH.nil
        case tkh64 => (simp only [List.getElem?_toArray, List.getElem?_cons_succ, List.getElem?_cons_zero]; rfl)
        go_simp
        (go_at_call 13; refine (lawAwake _).mono ?_; rintro e v7 ⟨rfl, hd7⟩)
        refine hKt64.out _ _ ?_ (fun hHt64 => ?_)
        · (exact ⟨HCV.out _ hd7, HCW.out _ hd7⟩)
        clear hKt64 Kt64 hHeld
        have hHeld := hHt64
        clear hHt64
        try simp only [Act.put, List.setIfInBounds_toArray, List.set_cons_zero, List.set_cons_succ]
        refine wpAnyH_take (i := 20) (oi := ?tko65) (v := ?tkv65) ?tkh65 (by kernel_rfl) (by kernel_rfl) (by kernel_rfl) ?tkq65 ?tky65 hHeld ?tkr65
        case tkh65 => (simp only [List.getElem?_toArray, List.getElem?_cons_succ, List.getElem?_cons_zero]; rfl)
        case tkq65 => exact fun _ _ _ h => h
        case tky65 => exact Or.inl ⟨by rfl, by intro wSw hSw; (try dsimp only at hSw); go_simp; try with_reducible rfl⟩
        try simp only [Act.put, List.setIfInBounds_toArray, List.set_cons_zero, List.set_cons_succ]
        refine wpAnyH_take (i := 21) (oi := ?tko66) (v := ?tkv66) ?tkh66 (by kernel_rfl) (by kernel_rfl) (by kernel_rfl) ?tkq66 ?tky66 hHeld ?tkr66
        case tkh66 => (simp only [List.getElem?_toArray, List.getElem?_cons_succ, List.getElem?_cons_zero]; rfl)
        case tkq66 => exact fun _ _ _ h => h
        case tky66 => exact Or.inl ⟨by rfl, by intro wSw hSw; (try dsimp only at hSw); go_simp; try with_reducible rfl⟩
        try simp only [Act.put, List.setIfInBounds_toArray, List.set_cons_zero, List.set_cons_succ]
        refine wpAnyH_done (by kernel_rfl) ?_ _
        clear hHeld
        go_wp2
        go_ret
        exact ⟨rfl, HBW.out.trans (hd7.mono HBW.out.size)⟩
      · have hae : n = a := by omega
        subst hae
        have hst : ¬ ((i : Int) < (n : Int)) := by omega
        clear hif
        have HRE := Lib.hid (landRead SL g bs sc n i (n : Int) 1 wr hls (by omega) ⟨by omega, by omega⟩ ⟨by omega, by omega⟩ (by rw [HBL.out]; exact hn))
        have HRW := Lib.hid hrow
        have HBR := Lib.hid hBr
        clear hrow hls hBr hgo
        go_wp2_with fail
        refine HRE.out.mono ?_
        rintro e w4 ⟨v4, rfl, -, hls4, hgr4⟩
        have hwz : want ≠ 0 := by have := HWV.out; omega
        rw [HW.out, HWV.out]
        rw [show readN bs.length n i (n : Int) 1 = i by unfold readN; rw [HW.out, if_neg hwz]] at hls4
        have hB4 := HBR.out.trans (below_grown hgr4 HBR.out.size (by omega))
        have hrow4 := HRW.out.kept hgr4 (by
          by_cases e : (Value.slice A2 n c2).ownBlock = some g
          · exfalso
            have := (HRW.out.lt g e).1
            omega
          · exact Or.inr e)
        obtain ⟨V, hV⟩ : ∃ V, V = w4.drew := ⟨_, rfl⟩
        have HBV := Lib.hid (show Below w4.heap.size w4 V by rw [hV]; exact (Below.refl _ _).drew)
        have hlsV := hls4.below HBV.out
        have hBV := hB4.trans (HBV.out.mono hB4.size)
        obtain ⟨s, hs⟩ : ∃ s, strOfNums (bs.take n) = s := ⟨_, rfl⟩
        have hta : ∀ z ∈ bs.take n, (Lit.int .u8 z).wf = true := fun z hz => HBS.out z (List.mem_of_mem_take hz)
        have HCV := Lib.hid (show ∀ W, Below V.heap.size V W → (convert 22 9 (.slice A2 n c2)).run Try.prog W = .ok (.string s) W from fun W hW => by rw [← hs]; exact conv_own (below_row (below_row hrow4 HBV.out) hW) hta)
        have HCW := Lib.hid (show ∀ W, Below V.heap.size V W → (convert 22 9 (.slice A n c)).run Try.prog W = .ok (.string s) W from fun W hW => by
          rw [← hs]
          exact run_str _ _ _ Try.underlying22 Try.underlying5 Try.underlying9 (((HA.out.take (m := n) (by omega)).below hBV).below hW))
        have hsl := fun W => slice_upto (P := Try.prog) 22 (by kernel_rfl) 1 (by kernel_rfl) A n c n (by omega) W
        have HRD := Lib.hid (landReads SL g bs sc n i V hlsV)
        have HBW := Lib.hid hBV
        have hia' : (i : Int) ≤ (n : Int) := by omega
        clear hs hta hls4 hgr4 hB4 hrow4 hlsV hBV HRE HRW
        go_wp2_with fail
        refine wp_region_held_drew (S := fun W => (convert 22 9 (.slice A2 n c2)).run Try.prog W = .ok (.string s) W ∧ (convert 22 9 (.slice A n c)).run Try.prog W = .ok (.string s) W) (by kernel_rfl) (by rw [← hV]; exact ⟨HCV.out V (Below.refl _ _), HCW.out V (Below.refl _ _)⟩) (fun hHeld => ?_)
        rw [← hV] at hHeld ⊢
        clear hV
        have HH := Lib.hid hHeld
        refine wpAnyH_take (i := 0) (oi := ?tko67) (v := ?tkv67) ?tkh67 (by kernel_rfl) (by kernel_rfl) (by kernel_rfl) ?tkq67 ?tky67 hHeld ?tkr67
        case tkh67 => (simp only [List.getElem?_toArray, List.getElem?_cons_zero]; rfl)
        case tkq67 => exact fun _ _ _ h => h
        case tky67 => exact Or.inl ⟨by rfl, by intro wSw hSw; (try dsimp only at hSw); go_simp; try with_reducible rfl⟩
        try simp only [Act.put, List.setIfInBounds_toArray, List.set_cons_zero, List.set_cons_succ]
        refine wpAnyH_take (i := 1) (oi := ?tko68) (v := ?tkv68) ?tkh68 (by kernel_rfl) (by kernel_rfl) (by kernel_rfl) ?tkq68 ?tky68 hHeld ?tkr68
        case tkh68 => (simp only [List.getElem?_toArray, List.getElem?_cons_succ, List.getElem?_cons_zero]; rfl)
        case tkq68 => exact fun _ _ _ h => h
        case tky68 => exact Or.inl ⟨by rfl, by intro wSw hSw; (try dsimp only at hSw); go_simp; try with_reducible rfl⟩
        try simp only [Act.put, List.setIfInBounds_toArray, List.set_cons_zero, List.set_cons_succ]
        refine wpAnyH_take (i := 2) (oi := ?tko69) (v := ?tkv69) ?tkh69 (by kernel_rfl) (by kernel_rfl) (by kernel_rfl) ?tkq69 ?tky69 hHeld ?tkr69
        case tkh69 => (simp only [List.getElem?_toArray, List.getElem?_cons_succ, List.getElem?_cons_zero]; rfl)
        case tkq69 => exact fun _ _ _ h => h
        case tky69 => exact Or.inl ⟨by rfl, by intro wSw hSw; (try dsimp only at hSw); go_simp; try with_reducible rfl⟩
        try simp only [Act.put, List.setIfInBounds_toArray, List.set_cons_zero, List.set_cons_succ]
        refine wpAnyH_take (i := 3) (oi := ?tko70) (v := ?tkv70) ?tkh70 (by kernel_rfl) (by kernel_rfl) (by kernel_rfl) ?tkq70 ?tky70 hHeld ?tkr70
        case tkh70 => (simp only [List.getElem?_toArray, List.getElem?_cons_succ, List.getElem?_cons_zero]; rfl)
        case tkq70 => exact fun _ _ _ h => h
        case tky70 => exact Or.inl ⟨by rfl, by intro wSw hSw; (try dsimp only at hSw); go_simp; try with_reducible rfl⟩
        try simp only [Act.put, List.setIfInBounds_toArray, List.set_cons_zero, List.set_cons_succ]
        refine wpAnyH_take (i := 4) (oi := ?tko71) (v := ?tkv71) ?tkh71 (by kernel_rfl) (by kernel_rfl) (by kernel_rfl) ?tkq71 ?tky71 hHeld ?tkr71
        case tkh71 => (simp only [List.getElem?_toArray, List.getElem?_cons_succ, List.getElem?_cons_zero]; rfl)
        case tkq71 => exact fun _ _ _ h => h
        case tky71 => exact Or.inl ⟨by rfl, by intro wSw hSw; (try dsimp only at hSw); go_simp; try with_reducible rfl⟩
        try simp only [Act.put, List.setIfInBounds_toArray, List.set_cons_zero, List.set_cons_succ]
        refine wpAnyH_take (i := 5) (oi := ?tko72) (v := ?tkv72) ?tkh72 (by kernel_rfl) (by kernel_rfl) (by kernel_rfl) ?tkq72 ?tky72 hHeld ?tkr72
        case tkh72 => (simp only [List.getElem?_toArray, List.getElem?_cons_succ, List.getElem?_cons_zero]; rfl)
        case tkq72 => exact fun _ _ _ h => h
        case tky72 => exact Or.inl ⟨by rfl, by intro wSw hSw; (try dsimp only at hSw); go_simp; try with_reducible rfl⟩
        try simp only [Act.put, List.setIfInBounds_toArray, List.set_cons_zero, List.set_cons_succ]
        refine wpAnyH_take (i := 6) (oi := ?tko73) (v := ?tkv73) ?tkh73 (by kernel_rfl) (by kernel_rfl) (by kernel_rfl) ?tkq73 ?tky73 hHeld ?tkr73
        case tkh73 => (simp only [List.getElem?_toArray, List.getElem?_cons_succ, List.getElem?_cons_zero]; rfl)
        case tkq73 => exact fun _ _ _ h => h
        case tky73 => exact Or.inl ⟨by rfl, by intro wSw hSw; (try dsimp only at hSw); go_simp; try with_reducible rfl⟩
        try simp only [Act.put, List.setIfInBounds_toArray, List.set_cons_zero, List.set_cons_succ]
        refine wpAnyH_take (i := 7) (oi := ?tko74) (v := ?tkv74) ?tkh74 (by kernel_rfl) (by kernel_rfl) (by kernel_rfl) ?tkq74 ?tky74 hHeld ?tkr74
        case tkh74 => (simp only [List.getElem?_toArray, List.getElem?_cons_succ, List.getElem?_cons_zero]; rfl)
        case tkq74 => exact fun _ _ _ h => h
        case tky74 => exact Or.inl ⟨by rfl, by intro wSw hSw; (try dsimp only at hSw); go_simp; try with_reducible rfl⟩
        try simp only [Act.put, List.setIfInBounds_toArray, List.set_cons_zero, List.set_cons_succ]
        refine wpAnyH_take (i := 8) (oi := ?tko75) (v := ?tkv75) ?tkh75 (by kernel_rfl) (by kernel_rfl) (by kernel_rfl) ?tkq75 ?tky75 hHeld ?tkr75
        case tkh75 => (simp only [List.getElem?_toArray, List.getElem?_cons_succ, List.getElem?_cons_zero]; rfl)
        case tkq75 => exact fun _ _ _ h => h
        case tky75 => exact Or.inl ⟨by rfl, by intro wSw hSw; (try dsimp only at hSw); go_simp; try with_reducible rfl⟩
        try simp only [Act.put, List.setIfInBounds_toArray, List.set_cons_zero, List.set_cons_succ]
        refine wpAnyH_take (i := 9) (oi := ?tko76) (v := ?tkv76) ?tkh76 (by kernel_rfl) (by kernel_rfl) (by kernel_rfl) ?tkq76 ?tky76 hHeld ?tkr76
        case tkh76 => (simp only [List.getElem?_toArray, List.getElem?_cons_succ, List.getElem?_cons_zero]; rfl)
        case tkq76 => exact fun _ _ _ h => h
        case tky76 => exact Or.inl ⟨by rfl, by intro wSw hSw; (try dsimp only at hSw); go_simp; try with_reducible rfl⟩
        try simp only [Act.put, List.setIfInBounds_toArray, List.set_cons_zero, List.set_cons_succ]
        refine wpAnyH_take (i := 10) (oi := ?tko77) (v := ?tkv77) ?tkh77 (by kernel_rfl) (by kernel_rfl) (by kernel_rfl) ?tkq77 ?tky77 hHeld ?tkr77
        case tkh77 => (simp only [List.getElem?_toArray, List.getElem?_cons_succ, List.getElem?_cons_zero]; rfl)
        case tkq77 => exact fun _ _ _ h => h
        case tky77 => exact Or.inl ⟨by rfl, by intro wSw hSw; (try dsimp only at hSw); go_simp; try with_reducible rfl⟩
        try simp only [Act.put, List.setIfInBounds_toArray, List.set_cons_zero, List.set_cons_succ]
        refine wpAnyH_take (i := 11) (oi := ?tko78) (v := ?tkv78) ?tkh78 (by kernel_rfl) (by kernel_rfl) (by kernel_rfl) ?tkq78 ?tky78 hHeld ?tkr78
        case tkh78 => (simp only [List.getElem?_toArray, List.getElem?_cons_succ, List.getElem?_cons_zero]; rfl)
        case tkq78 => exact fun _ _ _ h => h
        case tky78 => exact Or.inl ⟨by rfl, by intro wSw hSw; (try dsimp only at hSw); go_simp; try with_reducible rfl⟩
        try simp only [Act.put, List.setIfInBounds_toArray, List.set_cons_zero, List.set_cons_succ]
        refine wpAnyH_take (i := 12) (oi := ?tko79) (v := ?tkv79) ?tkh79 (by kernel_rfl) (by kernel_rfl) (by kernel_rfl) ?tkq79 ?tky79 hHeld ?tkr79
        case tkh79 => (simp only [List.getElem?_toArray, List.getElem?_cons_succ, List.getElem?_cons_zero]; rfl)
        case tkq79 => exact fun _ _ _ h => h
        case tky79 => exact Or.inl ⟨by rfl, by intro wSw hSw; (try dsimp only at hSw); go_simp; try with_reducible rfl⟩
        try simp only [Act.put, List.setIfInBounds_toArray, List.set_cons_zero, List.set_cons_succ]
        refine wpAnyH_take (i := 13) (oi := ?tko80) (v := ?tkv80) ?tkh80 (by kernel_rfl) (by kernel_rfl) (by kernel_rfl) ?tkq80 ?tky80 hHeld ?tkr80
        case tkh80 => (simp only [List.getElem?_toArray, List.getElem?_cons_succ, List.getElem?_cons_zero]; rfl)
        case tkq80 => exact fun _ _ _ h => h
        case tky80 => exact Or.inl ⟨by rfl, by intro wSw hSw; (try dsimp only at hSw); go_simp; try with_reducible rfl⟩
        try simp only [Act.put, List.setIfInBounds_toArray, List.set_cons_zero, List.set_cons_succ]
        refine wpAnyH_take (i := 15) (oi := ?tko81) (v := ?tkv81) ?tkh81 (by kernel_rfl) (by kernel_rfl) (by kernel_rfl) ?tkq81 ?tky81 hHeld ?tkr81
        case tkh81 => (simp only [List.getElem?_toArray, List.getElem?_cons_succ, List.getElem?_cons_zero]; rfl)
        case tkq81 => exact fun _ _ _ h => h
        case tky81 => exact Or.inl ⟨by rfl, by intro wSw hSw; (try dsimp only at hSw); go_simp; try with_reducible rfl⟩
        try simp only [Act.put, List.setIfInBounds_toArray, List.set_cons_zero, List.set_cons_succ]
        refine wpAnyH_ready (rs := [14]) (by kernel_rfl) (by simp) ?_
        refine AllReadyH.cons (o := ?tko82) ?tkh82 (fun Kt82 hKt82 => ?_) AllReadyH.nil
        case tkh82 => (simp only [List.getElem?_toArray, List.getElem?_cons_succ, List.getElem?_cons_zero]; rfl)
        go_simp
        (go_at_call 11; refine HRD.out.mono ?_; rintro e v6 ⟨rfl, rfl⟩)
        refine hKt82.out _ _ ?_ (fun hHt82 => ?_)
        · (exact HH.out)
        clear hKt82 Kt82 hHeld
        have hHeld := hHt82
        clear hHt82
        try simp only [Act.put, List.setIfInBounds_toArray, List.set_cons_zero, List.set_cons_succ]
        refine wpAnyH_take (i := 16) (oi := ?tko83) (v := ?tkv83) ?tkh83 (by kernel_rfl) (by kernel_rfl) (by kernel_rfl) ?tkq83 ?tky83 hHeld ?tkr83
        case tkh83 => (simp only [List.getElem?_toArray, List.getElem?_cons_succ, List.getElem?_cons_zero]; rfl)
        case tkq83 => exact fun _ _ _ h => h
        case tky83 => exact Or.inl ⟨by rfl, by intro wSw hSw; (try dsimp only at hSw); go_simp; try with_reducible rfl⟩
        try simp only [Act.put, List.setIfInBounds_toArray, List.set_cons_zero, List.set_cons_succ]
        refine wpAnyH_take (i := 17) (oi := ?tko84) (v := ?tkv84) ?tkh84 (by kernel_rfl) (by kernel_rfl) (by kernel_rfl) ?tkq84 ?tky84 hHeld ?tkr84
        case tkh84 => (simp only [List.getElem?_toArray, List.getElem?_cons_succ, List.getElem?_cons_zero]; rfl)
        case tkq84 => exact fun _ _ _ h => h
        case tky84 => exact Or.inl ⟨by rfl, by intro wSw hSw; (try dsimp only at hSw); go_simp; try with_reducible rfl⟩
        try simp only [Act.put, List.setIfInBounds_toArray, List.set_cons_zero, List.set_cons_succ]
        refine wpAnyH_take (i := 18) (oi := ?tko85) (v := ?tkv85) ?tkh85 (by kernel_rfl) (by kernel_rfl) (by kernel_rfl) ?tkq85 ?tky85 hHeld ?tkr85
        case tkh85 => (simp only [List.getElem?_toArray, List.getElem?_cons_succ, List.getElem?_cons_zero]; rfl)
        case tkq85 => exact fun _ _ _ h => h
        case tky85 => exact Or.inl ⟨by rfl, by intro wSw hSw; (try dsimp only at hSw); go_simp; try with_reducible rfl⟩
        try simp only [Act.put, List.setIfInBounds_toArray, List.set_cons_zero, List.set_cons_succ]
        refine wpAnyH_ready (rs := [19]) (by kernel_rfl) (by simp) ?_
        refine AllReadyH.cons (o := ?tko86) ?tkh86 (fun Kt86 hKt86 => ?_) AllReadyH.nil
        case tkh86 => (simp only [List.getElem?_toArray, List.getElem?_cons_succ, List.getElem?_cons_zero]; rfl)
        go_simp
        (go_at_call 13; refine (lawAwake _).mono ?_; rintro e v7 ⟨rfl, hd7⟩)
        refine hKt86.out _ _ ?_ (fun hHt86 => ?_)
        · (exact ⟨HCV.out _ hd7, HCW.out _ hd7⟩)
        clear hKt86 Kt86 hHeld
        have hHeld := hHt86
        clear hHt86
        try simp only [Act.put, List.setIfInBounds_toArray, List.set_cons_zero, List.set_cons_succ]
        refine wpAnyH_take (i := 20) (oi := ?tko87) (v := ?tkv87) ?tkh87 (by kernel_rfl) (by kernel_rfl) (by kernel_rfl) ?tkq87 ?tky87 hHeld ?tkr87
        case tkh87 => (simp only [List.getElem?_toArray, List.getElem?_cons_succ, List.getElem?_cons_zero]; rfl)
        case tkq87 => exact fun _ _ _ h => h
        case tky87 => exact Or.inl ⟨by rfl, by intro wSw hSw; (try dsimp only at hSw); go_simp; try with_reducible rfl⟩
        try simp only [Act.put, List.setIfInBounds_toArray, List.set_cons_zero, List.set_cons_succ]
        refine wpAnyH_take (i := 21) (oi := ?tko88) (v := ?tkv88) ?tkh88 (by kernel_rfl) (by kernel_rfl) (by kernel_rfl) ?tkq88 ?tky88 hHeld ?tkr88
        case tkh88 => (simp only [List.getElem?_toArray, List.getElem?_cons_succ, List.getElem?_cons_zero]; rfl)
        case tkq88 => exact fun _ _ _ h => h
        case tky88 => exact Or.inl ⟨by rfl, by intro wSw hSw; (try dsimp only at hSw); go_simp; try with_reducible rfl⟩
        try simp only [Act.put, List.setIfInBounds_toArray, List.set_cons_zero, List.set_cons_succ]
        refine wpAnyH_done (by kernel_rfl) ?_ _
        clear hHeld
        go_wp2
        go_ret
        exact ⟨rfl, HBW.out.trans (hd7.mono HBW.out.size)⟩
  · subst hf2
    obtain ⟨want, hwant⟩ : ∃ want : Nat, want = 13 := ⟨_, rfl⟩
    have HW := Lib.hid (show readE bs.length n (n : Int) 1 = want by rw [HBL.out, hwant]; unfold readE; rw [if_neg (by omega), if_pos (by omega)])
    have HWV := Lib.hid hwant
    skip
    clear hwant
    go_wp2_with fail
    go_loopw [12, 35] (fun v iv wr => ∃ i a : Nat, i ≤ n ∧ iv = .int .i64 i ∧ i ≤ a ∧ a ≤ n ∧ wr.ownsRow w1.heap.size 5 1 v a ((bs.take a).map (Value.int .u8)) ∧ LSrc SL wr g bs sc n i ∧ Below w.heap.size w wr ∧ w1.heap.size ≤ wr.heap.size) (fun _ iv _ => n - (intOf iv).toNat)
    case atStart => exact ⟨0, 0, Nat.zero_le _, rfl, Nat.le_refl _, Nat.zero_le _, World.ownsRow_nil _ _ _ _, HS1.out, HB1.out, Nat.le_refl _⟩
    case round =>
      obtain ⟨i, a, hi, rfl, hia, haf, hrow, hls, hBr, hw1⟩ := hrel
      obtain ⟨A2, c2, rfl, -⟩ := own_slice hrow
      by_cases hgo : i < n ∧ a < n
      · obtain ⟨hif, haf2⟩ := hgo
        have haf' : ¬ ((a : Int) ≥ (n : Int)) := by omega
        have hif' : (i : Int) < (n : Int) := by omega
        have hfc : (n : Int) ≤ 140737488351232 := by omega
        by_cases hm0 : ml = 0
        · have hm0' : ¬ ((ml : Int) > 0) := by omega
          clear hm0
          have hrz : readE bs.length n (a : Int) (1) = 0 := by rw [HBL.out]; unfold readE; rw [if_neg (by omega), if_neg (by omega), if_neg (by omega)]
          obtain ⟨k1, k2, -, k4⟩ := readK_bd sc i (by rw [HBL.out]; exact hfn) hrz
          have hln := readL_len sc i (bs := bs) (by rw [HBL.out]; exact hfn) hrz
          have HLR := Lib.hid (landRead SL g bs sc n i (a : Int) (1) wr hls (by omega) ⟨by omega, by omega⟩ ⟨by omega, by omega⟩ (by rw [HBL.out]; exact hn))
          have hL : readL bs n sc i (a : Int) (1) = (bs.drop a).take (readK n sc i (a : Int) (1)) := by unfold readL; rw [if_pos hrz, Int.toNat_natCast]
          obtain ⟨K, hK⟩ : ∃ K, readK n sc i (a : Int) (1) = K := ⟨_, rfl⟩
          rw [hK] at k1 k2 k4 hln hL
          have hak : a + K ≤ n := by omega
          have HLN := Lib.hid hln
          have HLL := Lib.hid hL
          have HRZ := Lib.hid hrz
          have HRW := Lib.hid hrow
          have HBR := Lib.hid hBr
          clear hrz hln hL hK k2 hrow hls hBr
          go_wp2_with fail
          refine HLR.out.mono ?_
          rintro e w4 ⟨v4, rfl, hown4, hls4, hgr4⟩
          rw [HLN.out, HLL.out] at hown4
          rw [HRZ.out]
          rw [show readN bs.length n i (a : Int) (1) = i + 1 by unfold readN; rw [HRZ.out, if_pos rfl]] at hls4
          obtain ⟨A4, c4, rfl, -⟩ := own_slice hown4
          have hB4 := HBR.out.trans (below_grown hgr4 HBR.out.size (by omega))
          have hrow4 := HRW.out.kept hgr4 (by
            by_cases e : (Value.slice A2 a c2).ownBlock = some g
            · exfalso
              have := (HRW.out.lt g e).1
              omega
            · exact Or.inr e)
          have HRD := Lib.hid (landReads SL g bs sc n (i + 1) w4 hls4)
          have HL4 := Lib.hid hls4
          have HR4 := Lib.hid hrow4
          have HB4 := Lib.hid hB4
          have HX4 := Lib.hid (Rd.own hown4 (fun z hz => HBS.out z (List.mem_of_mem_drop (List.mem_of_mem_take hz))))
          have hk1 : ((K : Int) == 0) = false := by simp; omega
          have hk4 : ¬ ((K : Int) > 1) := by omega
          have hs4 : w1.heap.size ≤ w4.heap.size := Nat.le_trans hw1 hgr4.size
          clear hown4 hls4 hgr4 hB4 hrow4 HLR HRW
          go_wp2_with fail
          refine HRD.out.mono ?_
          rintro e w5 ⟨rfl, rfl⟩
          have hiw : ((i + 1 : Nat) : Int) = (i : Int) + 1 := by omega
          rw [hiw]
          clear hiw
          go_wp2_with (at_builtin; refine wpList_append_ints rfl _ _ 22 rfl .u8 w1.heap.size 5 i0 1 Try.underlying22 hi0 hz0 hz1 hz2 _ _ _ rfl HR4.out _ _ _ ((bs.drop a).take K) rfl HX4.out (by omega) (by omega) hs4 ?_; intro v6 w6 hown6 hgr6)
          go_roundw
          case rel =>
            have hob : ∀ q, (Value.slice A2 a c2).ownBlock = some q → w1.heap.size ≤ q := fun q hq => (HR4.out.lt q hq).1
            refine ⟨i + 1, a + K, by omega, by go_num, by omega, hak, ?_, HL4.out.kept hgr6 (fun e => by have := hob g e.symm; omega) (fun b hb e => by have := hob b e.symm; have := HSL.out b hb; omega), HB4.out.grown hgr6 HB4.out.size (fun q hq => by have := hob q hq; have := HB1.out.size; omega), Nat.le_trans hs4 hgr6.size⟩
            rw [take_more (by rw [HBL.out]; omega)] at hown6
            exact hown6
          case measure => simp [intOf]; omega
        obtain ⟨mi, hmi1, hmi2⟩ : ∃ mi : Nat, (i : Int) % (ml : Int) = (mi : Int) ∧ mi < ml := ⟨i % ml, by rw [Int.natCast_emod], Nat.mod_lt _ (by omega)⟩
        obtain ⟨bM, oM, hMe, hcM⟩ := (HM.out.below hBr).cell (by omega)
        have xM := hcM mi hmi2
        have hzb := HM.out.u8 mi hmi2
        obtain ⟨z, hz⟩ : ∃ z, ms[mi]?.getD 0 = z := ⟨_, rfl⟩
        rw [hz] at xM hzb
        obtain ⟨zb0, zb1⟩ := hzb
        have hml0 : ((ml : Int) == 0) = false := by simp; omega
        subst hMe
        have hm0' : (ml : Int) > 0 := by omega
        clear hm0
        have hrz : readE bs.length n (a : Int) (1 + z) = 0 := by rw [HBL.out]; unfold readE; rw [if_neg (by omega), if_neg (by omega), if_neg (by omega)]
        obtain ⟨k1, k2, -, k4⟩ := readK_bd sc i (by rw [HBL.out]; exact hfn) hrz
        have hln := readL_len sc i (bs := bs) (by rw [HBL.out]; exact hfn) hrz
        have HLR := Lib.hid (landRead SL g bs sc n i (a : Int) (1 + z) wr hls (by omega) ⟨by omega, by omega⟩ ⟨by omega, by omega⟩ (by rw [HBL.out]; exact hn))
        have hL : readL bs n sc i (a : Int) (1 + z) = (bs.drop a).take (readK n sc i (a : Int) (1 + z)) := by unfold readL; rw [if_pos hrz, Int.toNat_natCast]
        obtain ⟨K, hK⟩ : ∃ K, readK n sc i (a : Int) (1 + z) = K := ⟨_, rfl⟩
        rw [hK] at k1 k2 k4 hln hL
        have hak : a + K ≤ n := by omega
        have HLN := Lib.hid hln
        have HLL := Lib.hid hL
        have HRZ := Lib.hid hrz
        have HRW := Lib.hid hrow
        have HBR := Lib.hid hBr
        clear hrz hln hL hK k2 hrow hls hBr hcM hz
        go_wp2_with fail
        refine HLR.out.mono ?_
        rintro e w4 ⟨v4, rfl, hown4, hls4, hgr4⟩
        rw [HLN.out, HLL.out] at hown4
        rw [HRZ.out]
        rw [show readN bs.length n i (a : Int) (1 + z) = i + 1 by unfold readN; rw [HRZ.out, if_pos rfl]] at hls4
        obtain ⟨A4, c4, rfl, -⟩ := own_slice hown4
        have hB4 := HBR.out.trans (below_grown hgr4 HBR.out.size (by omega))
        have hrow4 := HRW.out.kept hgr4 (by
          by_cases e : (Value.slice A2 a c2).ownBlock = some g
          · exfalso
            have := (HRW.out.lt g e).1
            omega
          · exact Or.inr e)
        have HRD := Lib.hid (landReads SL g bs sc n (i + 1) w4 hls4)
        have HL4 := Lib.hid hls4
        have HR4 := Lib.hid hrow4
        have HB4 := Lib.hid hB4
        have HX4 := Lib.hid (Rd.own hown4 (fun z hz => HBS.out z (List.mem_of_mem_drop (List.mem_of_mem_take hz))))
        have hk1 : ((K : Int) == 0) = false := by simp; omega
        have hk4 : ¬ ((K : Int) > 1 + z) := by omega
        have hs4 : w1.heap.size ≤ w4.heap.size := Nat.le_trans hw1 hgr4.size
        clear hown4 hls4 hgr4 hB4 hrow4 HLR HRW
        go_wp2_with fail
        refine HRD.out.mono ?_
        rintro e w5 ⟨rfl, rfl⟩
        have hiw : ((i + 1 : Nat) : Int) = (i : Int) + 1 := by omega
        rw [hiw]
        clear hiw
        go_wp2_with (at_builtin; refine wpList_append_ints rfl _ _ 22 rfl .u8 w1.heap.size 5 i0 1 Try.underlying22 hi0 hz0 hz1 hz2 _ _ _ rfl HR4.out _ _ _ ((bs.drop a).take K) rfl HX4.out (by omega) (by omega) hs4 ?_; intro v6 w6 hown6 hgr6)
        go_roundw
        case rel =>
          have hob : ∀ q, (Value.slice A2 a c2).ownBlock = some q → w1.heap.size ≤ q := fun q hq => (HR4.out.lt q hq).1
          refine ⟨i + 1, a + K, by omega, by go_num, by omega, hak, ?_, HL4.out.kept hgr6 (fun e => by have := hob g e.symm; omega) (fun b hb e => by have := hob b e.symm; have := HSL.out b hb; omega), HB4.out.grown hgr6 HB4.out.size (fun q hq => by have := hob q hq; have := HB1.out.size; omega), Nat.le_trans hs4 hgr6.size⟩
          rw [take_more (by rw [HBL.out]; omega)] at hown6
          exact hown6
        case measure => simp [intOf]; omega
      by_cases hif : i < n
      · have hae : n = a := by omega
        subst hae
        have hst : (i : Int) < (n : Int) := by omega
        clear hif
        have HRE := Lib.hid (landRead SL g bs sc n i (n : Int) 1 wr hls (by omega) ⟨by omega, by omega⟩ ⟨by omega, by omega⟩ (by rw [HBL.out]; exact hn))
        have HRW := Lib.hid hrow
        have HBR := Lib.hid hBr
        clear hrow hls hBr hgo
        go_wp2_with fail
        refine HRE.out.mono ?_
        rintro e w4 ⟨v4, rfl, -, hls4, hgr4⟩
        have hwz : want ≠ 0 := by have := HWV.out; omega
        rw [HW.out, HWV.out]
        rw [show readN bs.length n i (n : Int) 1 = i by unfold readN; rw [HW.out, if_neg hwz]] at hls4
        have hB4 := HBR.out.trans (below_grown hgr4 HBR.out.size (by omega))
        have hrow4 := HRW.out.kept hgr4 (by
          by_cases e : (Value.slice A2 n c2).ownBlock = some g
          · exfalso
            have := (HRW.out.lt g e).1
            omega
          · exact Or.inr e)
        obtain ⟨V, hV⟩ : ∃ V, V = w4.drew := ⟨_, rfl⟩
        have HBV := Lib.hid (show Below w4.heap.size w4 V by rw [hV]; exact (Below.refl _ _).drew)
        have hlsV := hls4.below HBV.out
        have hBV := hB4.trans (HBV.out.mono hB4.size)
        obtain ⟨s, hs⟩ : ∃ s, strOfNums (bs.take n) = s := ⟨_, rfl⟩
        have hta : ∀ z ∈ bs.take n, (Lit.int .u8 z).wf = true := fun z hz => HBS.out z (List.mem_of_mem_take hz)
        have HCV := Lib.hid (show ∀ W, Below V.heap.size V W → (convert 22 9 (.slice A2 n c2)).run Try.prog W = .ok (.string s) W from fun W hW => by rw [← hs]; exact conv_own (below_row (below_row hrow4 HBV.out) hW) hta)
        have HCW := Lib.hid (show ∀ W, Below V.heap.size V W → (convert 22 9 (.slice A n c)).run Try.prog W = .ok (.string s) W from fun W hW => by
          rw [← hs]
          exact run_str _ _ _ Try.underlying22 Try.underlying5 Try.underlying9 (((HA.out.take (m := n) (by omega)).below hBV).below hW))
        have hsl := fun W => slice_upto (P := Try.prog) 22 (by kernel_rfl) 1 (by kernel_rfl) A n c n (by omega) W
        have HRD := Lib.hid (landReads SL g bs sc n i V hlsV)
        have HBW := Lib.hid hBV
        have hia' : (i : Int) ≤ (n : Int) := by omega
        clear hs hta hls4 hgr4 hB4 hrow4 hlsV hBV HRE HRW
        go_wp2_with fail
        refine wp_region_held_drew (S := fun W => (convert 22 9 (.slice A2 n c2)).run Try.prog W = .ok (.string s) W ∧ (convert 22 9 (.slice A n c)).run Try.prog W = .ok (.string s) W) (by kernel_rfl) (by rw [← hV]; exact ⟨HCV.out V (Below.refl _ _), HCW.out V (Below.refl _ _)⟩) (fun hHeld => ?_)
        rw [← hV] at hHeld ⊢
        clear hV
        have HH := Lib.hid hHeld
        refine wpAnyH_take (i := 0) (oi := ?tko89) (v := ?tkv89) ?tkh89 (by kernel_rfl) (by kernel_rfl) (by kernel_rfl) ?tkq89 ?tky89 hHeld ?tkr89
        case tkh89 => (simp only [List.getElem?_toArray, List.getElem?_cons_zero]; rfl)
        case tkq89 => exact fun _ _ _ h => h
        case tky89 => exact Or.inl ⟨by rfl, by intro wSw hSw; (try dsimp only at hSw); go_simp; try with_reducible rfl⟩
        try simp only [Act.put, List.setIfInBounds_toArray, List.set_cons_zero, List.set_cons_succ]
        refine wpAnyH_take (i := 1) (oi := ?tko90) (v := ?tkv90) ?tkh90 (by kernel_rfl) (by kernel_rfl) (by kernel_rfl) ?tkq90 ?tky90 hHeld ?tkr90
        case tkh90 => (simp only [List.getElem?_toArray, List.getElem?_cons_succ, List.getElem?_cons_zero]; rfl)
        case tkq90 => exact fun _ _ _ h => h
        case tky90 => exact Or.inl ⟨by rfl, by intro wSw hSw; (try dsimp only at hSw); go_simp; try with_reducible rfl⟩
        try simp only [Act.put, List.setIfInBounds_toArray, List.set_cons_zero, List.set_cons_succ]
        refine wpAnyH_take (i := 2) (oi := ?tko91) (v := ?tkv91) ?tkh91 (by kernel_rfl) (by kernel_rfl) (by kernel_rfl) ?tkq91 ?tky91 hHeld ?tkr91
        case tkh91 => (simp only [List.getElem?_toArray, List.getElem?_cons_succ, List.getElem?_cons_zero]; rfl)
        case tkq91 => exact fun _ _ _ h => h
        case tky91 => exact Or.inl ⟨by rfl, by intro wSw hSw; (try dsimp only at hSw); go_simp; try with_reducible rfl⟩
        try simp only [Act.put, List.setIfInBounds_toArray, List.set_cons_zero, List.set_cons_succ]
        refine wpAnyH_take (i := 3) (oi := ?tko92) (v := ?tkv92) ?tkh92 (by kernel_rfl) (by kernel_rfl) (by kernel_rfl) ?tkq92 ?tky92 hHeld ?tkr92
        case tkh92 => (simp only [List.getElem?_toArray, List.getElem?_cons_succ, List.getElem?_cons_zero]; rfl)
        case tkq92 => exact fun _ _ _ h => h
        case tky92 => exact Or.inl ⟨by rfl, by intro wSw hSw; (try dsimp only at hSw); go_simp; try with_reducible rfl⟩
        try simp only [Act.put, List.setIfInBounds_toArray, List.set_cons_zero, List.set_cons_succ]
        refine wpAnyH_take (i := 4) (oi := ?tko93) (v := ?tkv93) ?tkh93 (by kernel_rfl) (by kernel_rfl) (by kernel_rfl) ?tkq93 ?tky93 hHeld ?tkr93
        case tkh93 => (simp only [List.getElem?_toArray, List.getElem?_cons_succ, List.getElem?_cons_zero]; rfl)
        case tkq93 => exact fun _ _ _ h => h
        case tky93 => exact Or.inl ⟨by rfl, by intro wSw hSw; (try dsimp only at hSw); go_simp; try with_reducible rfl⟩
        try simp only [Act.put, List.setIfInBounds_toArray, List.set_cons_zero, List.set_cons_succ]
        refine wpAnyH_take (i := 5) (oi := ?tko94) (v := ?tkv94) ?tkh94 (by kernel_rfl) (by kernel_rfl) (by kernel_rfl) ?tkq94 ?tky94 hHeld ?tkr94
        case tkh94 => (simp only [List.getElem?_toArray, List.getElem?_cons_succ, List.getElem?_cons_zero]; rfl)
        case tkq94 => exact fun _ _ _ h => h
        case tky94 => exact Or.inl ⟨by rfl, by intro wSw hSw; (try dsimp only at hSw); go_simp; try with_reducible rfl⟩
        try simp only [Act.put, List.setIfInBounds_toArray, List.set_cons_zero, List.set_cons_succ]
        refine wpAnyH_take (i := 6) (oi := ?tko95) (v := ?tkv95) ?tkh95 (by kernel_rfl) (by kernel_rfl) (by kernel_rfl) ?tkq95 ?tky95 hHeld ?tkr95
        case tkh95 => (simp only [List.getElem?_toArray, List.getElem?_cons_succ, List.getElem?_cons_zero]; rfl)
        case tkq95 => exact fun _ _ _ h => h
        case tky95 => exact Or.inl ⟨by rfl, by intro wSw hSw; (try dsimp only at hSw); go_simp; try with_reducible rfl⟩
        try simp only [Act.put, List.setIfInBounds_toArray, List.set_cons_zero, List.set_cons_succ]
        refine wpAnyH_take (i := 7) (oi := ?tko96) (v := ?tkv96) ?tkh96 (by kernel_rfl) (by kernel_rfl) (by kernel_rfl) ?tkq96 ?tky96 hHeld ?tkr96
        case tkh96 => (simp only [List.getElem?_toArray, List.getElem?_cons_succ, List.getElem?_cons_zero]; rfl)
        case tkq96 => exact fun _ _ _ h => h
        case tky96 => exact Or.inl ⟨by rfl, by intro wSw hSw; (try dsimp only at hSw); go_simp; try with_reducible rfl⟩
        try simp only [Act.put, List.setIfInBounds_toArray, List.set_cons_zero, List.set_cons_succ]
        refine wpAnyH_take (i := 8) (oi := ?tko97) (v := ?tkv97) ?tkh97 (by kernel_rfl) (by kernel_rfl) (by kernel_rfl) ?tkq97 ?tky97 hHeld ?tkr97
        case tkh97 => (simp only [List.getElem?_toArray, List.getElem?_cons_succ, List.getElem?_cons_zero]; rfl)
        case tkq97 => exact fun _ _ _ h => h
        case tky97 => exact Or.inl ⟨by rfl, by intro wSw hSw; (try dsimp only at hSw); go_simp; try with_reducible rfl⟩
        try simp only [Act.put, List.setIfInBounds_toArray, List.set_cons_zero, List.set_cons_succ]
        refine wpAnyH_take (i := 9) (oi := ?tko98) (v := ?tkv98) ?tkh98 (by kernel_rfl) (by kernel_rfl) (by kernel_rfl) ?tkq98 ?tky98 hHeld ?tkr98
        case tkh98 => (simp only [List.getElem?_toArray, List.getElem?_cons_succ, List.getElem?_cons_zero]; rfl)
        case tkq98 => exact fun _ _ _ h => h
        case tky98 => exact Or.inl ⟨by rfl, by intro wSw hSw; (try dsimp only at hSw); go_simp; try with_reducible rfl⟩
        try simp only [Act.put, List.setIfInBounds_toArray, List.set_cons_zero, List.set_cons_succ]
        refine wpAnyH_take (i := 10) (oi := ?tko99) (v := ?tkv99) ?tkh99 (by kernel_rfl) (by kernel_rfl) (by kernel_rfl) ?tkq99 ?tky99 hHeld ?tkr99
        case tkh99 => (simp only [List.getElem?_toArray, List.getElem?_cons_succ, List.getElem?_cons_zero]; rfl)
        case tkq99 => exact fun _ _ _ h => h
        case tky99 => exact Or.inl ⟨by rfl, by intro wSw hSw; (try dsimp only at hSw); go_simp; try with_reducible rfl⟩
        try simp only [Act.put, List.setIfInBounds_toArray, List.set_cons_zero, List.set_cons_succ]
        refine wpAnyH_take (i := 11) (oi := ?tko100) (v := ?tkv100) ?tkh100 (by kernel_rfl) (by kernel_rfl) (by kernel_rfl) ?tkq100 ?tky100 hHeld ?tkr100
        case tkh100 => (simp only [List.getElem?_toArray, List.getElem?_cons_succ, List.getElem?_cons_zero]; rfl)
        case tkq100 => exact fun _ _ _ h => h
        case tky100 => exact Or.inl ⟨by rfl, by intro wSw hSw; (try dsimp only at hSw); go_simp; try with_reducible rfl⟩
        try simp only [Act.put, List.setIfInBounds_toArray, List.set_cons_zero, List.set_cons_succ]
        refine wpAnyH_take (i := 12) (oi := ?tko101) (v := ?tkv101) ?tkh101 (by kernel_rfl) (by kernel_rfl) (by kernel_rfl) ?tkq101 ?tky101 hHeld ?tkr101
        case tkh101 => (simp only [List.getElem?_toArray, List.getElem?_cons_succ, List.getElem?_cons_zero]; rfl)
        case tkq101 => exact fun _ _ _ h => h
        case tky101 => exact Or.inl ⟨by rfl, by intro wSw hSw; (try dsimp only at hSw); go_simp; try with_reducible rfl⟩
        try simp only [Act.put, List.setIfInBounds_toArray, List.set_cons_zero, List.set_cons_succ]
        refine wpAnyH_take (i := 13) (oi := ?tko102) (v := ?tkv102) ?tkh102 (by kernel_rfl) (by kernel_rfl) (by kernel_rfl) ?tkq102 ?tky102 hHeld ?tkr102
        case tkh102 => (simp only [List.getElem?_toArray, List.getElem?_cons_succ, List.getElem?_cons_zero]; rfl)
        case tkq102 => exact fun _ _ _ h => h
        case tky102 => exact Or.inl ⟨by rfl, by intro wSw hSw; (try dsimp only at hSw); go_simp; try with_reducible rfl⟩
        try simp only [Act.put, List.setIfInBounds_toArray, List.set_cons_zero, List.set_cons_succ]
        refine wpAnyH_take (i := 15) (oi := ?tko103) (v := ?tkv103) ?tkh103 (by kernel_rfl) (by kernel_rfl) (by kernel_rfl) ?tkq103 ?tky103 hHeld ?tkr103
        case tkh103 => (simp only [List.getElem?_toArray, List.getElem?_cons_succ, List.getElem?_cons_zero]; rfl)
        case tkq103 => exact fun _ _ _ h => h
        case tky103 => exact Or.inl ⟨by rfl, by intro wSw hSw; (try dsimp only at hSw); go_simp; try with_reducible rfl⟩
        try simp only [Act.put, List.setIfInBounds_toArray, List.set_cons_zero, List.set_cons_succ]
        refine wpAnyH_ready (rs := [14]) (by kernel_rfl) (by simp) ?_
        refine AllReadyH.cons (o := ?tko104) ?tkh104 (fun Kt104 hKt104 => ?_) AllReadyH.nil
        case tkh104 => (simp only [List.getElem?_toArray, List.getElem?_cons_succ, List.getElem?_cons_zero]; rfl)
        go_simp
        (go_at_call 11; refine HRD.out.mono ?_; rintro e v6 ⟨rfl, rfl⟩)
        refine hKt104.out _ _ ?_ (fun hHt104 => ?_)
        · (exact HH.out)
        clear hKt104 Kt104 hHeld
        have hHeld := hHt104
        clear hHt104
        try simp only [Act.put, List.setIfInBounds_toArray, List.set_cons_zero, List.set_cons_succ]
        refine wpAnyH_take (i := 16) (oi := ?tko105) (v := ?tkv105) ?tkh105 (by kernel_rfl) (by kernel_rfl) (by kernel_rfl) ?tkq105 ?tky105 hHeld ?tkr105
        case tkh105 => (simp only [List.getElem?_toArray, List.getElem?_cons_succ, List.getElem?_cons_zero]; rfl)
        case tkq105 => exact fun _ _ _ h => h
        case tky105 => exact Or.inl ⟨by rfl, by intro wSw hSw; (try dsimp only at hSw); go_simp; try with_reducible rfl⟩
        try simp only [Act.put, List.setIfInBounds_toArray, List.set_cons_zero, List.set_cons_succ]
        refine wpAnyH_take (i := 17) (oi := ?tko106) (v := ?tkv106) ?tkh106 (by kernel_rfl) (by kernel_rfl) (by kernel_rfl) ?tkq106 ?tky106 hHeld ?tkr106
        case tkh106 => (simp only [List.getElem?_toArray, List.getElem?_cons_succ, List.getElem?_cons_zero]; rfl)
        case tkq106 => exact fun _ _ _ h => h
        case tky106 => exact Or.inl ⟨by rfl, by intro wSw hSw; (try dsimp only at hSw); go_simp; try with_reducible rfl⟩
        try simp only [Act.put, List.setIfInBounds_toArray, List.set_cons_zero, List.set_cons_succ]
        refine wpAnyH_take (i := 18) (oi := ?tko107) (v := ?tkv107) ?tkh107 (by kernel_rfl) (by kernel_rfl) (by kernel_rfl) ?tkq107 ?tky107 hHeld ?tkr107
        case tkh107 => (simp only [List.getElem?_toArray, List.getElem?_cons_succ, List.getElem?_cons_zero]; rfl)
        case tkq107 => exact fun _ _ _ h => h
        case tky107 => exact Or.inl ⟨by rfl, by intro wSw hSw; (try dsimp only at hSw); go_simp; try with_reducible rfl⟩
        try simp only [Act.put, List.setIfInBounds_toArray, List.set_cons_zero, List.set_cons_succ]
        refine wpAnyH_ready (rs := [19]) (by kernel_rfl) (by simp) ?_
        refine AllReadyH.cons (o := ?tko108) ?tkh108 (fun Kt108 hKt108 => ?_) AllReadyH.nil
        case tkh108 => (simp only [List.getElem?_toArray, List.getElem?_cons_succ, List.getElem?_cons_zero]; rfl)
        go_simp
        (go_at_call 13; refine (lawAwake _).mono ?_; rintro e v7 ⟨rfl, hd7⟩)
        refine hKt108.out _ _ ?_ (fun hHt108 => ?_)
        · (exact ⟨HCV.out _ hd7, HCW.out _ hd7⟩)
        clear hKt108 Kt108 hHeld
        have hHeld := hHt108
        clear hHt108
        try simp only [Act.put, List.setIfInBounds_toArray, List.set_cons_zero, List.set_cons_succ]
        refine wpAnyH_take (i := 20) (oi := ?tko109) (v := ?tkv109) ?tkh109 (by kernel_rfl) (by kernel_rfl) (by kernel_rfl) ?tkq109 ?tky109 hHeld ?tkr109
        case tkh109 => (simp only [List.getElem?_toArray, List.getElem?_cons_succ, List.getElem?_cons_zero]; rfl)
        case tkq109 => exact fun _ _ _ h => h
        case tky109 => exact Or.inl ⟨by rfl, by intro wSw hSw; (try dsimp only at hSw); go_simp; try with_reducible rfl⟩
        try simp only [Act.put, List.setIfInBounds_toArray, List.set_cons_zero, List.set_cons_succ]
        refine wpAnyH_take (i := 21) (oi := ?tko110) (v := ?tkv110) ?tkh110 (by kernel_rfl) (by kernel_rfl) (by kernel_rfl) ?tkq110 ?tky110 hHeld ?tkr110
        case tkh110 => (simp only [List.getElem?_toArray, List.getElem?_cons_succ, List.getElem?_cons_zero]; rfl)
        case tkq110 => exact fun _ _ _ h => h
        case tky110 => exact Or.inl ⟨by rfl, by intro wSw hSw; (try dsimp only at hSw); go_simp; try with_reducible rfl⟩
        try simp only [Act.put, List.setIfInBounds_toArray, List.set_cons_zero, List.set_cons_succ]
        refine wpAnyH_done (by kernel_rfl) ?_ _
        clear hHeld
        go_wp2
        go_ret
        exact ⟨rfl, HBW.out.trans (hd7.mono HBW.out.size)⟩
      · have hae : n = a := by omega
        subst hae
        have hst : ¬ ((i : Int) < (n : Int)) := by omega
        clear hif
        have HRE := Lib.hid (landRead SL g bs sc n i (n : Int) 1 wr hls (by omega) ⟨by omega, by omega⟩ ⟨by omega, by omega⟩ (by rw [HBL.out]; exact hn))
        have HRW := Lib.hid hrow
        have HBR := Lib.hid hBr
        clear hrow hls hBr hgo
        go_wp2_with fail
        refine HRE.out.mono ?_
        rintro e w4 ⟨v4, rfl, -, hls4, hgr4⟩
        have hwz : want ≠ 0 := by have := HWV.out; omega
        rw [HW.out, HWV.out]
        rw [show readN bs.length n i (n : Int) 1 = i by unfold readN; rw [HW.out, if_neg hwz]] at hls4
        have hB4 := HBR.out.trans (below_grown hgr4 HBR.out.size (by omega))
        have hrow4 := HRW.out.kept hgr4 (by
          by_cases e : (Value.slice A2 n c2).ownBlock = some g
          · exfalso
            have := (HRW.out.lt g e).1
            omega
          · exact Or.inr e)
        obtain ⟨V, hV⟩ : ∃ V, V = w4.drew := ⟨_, rfl⟩
        have HBV := Lib.hid (show Below w4.heap.size w4 V by rw [hV]; exact (Below.refl _ _).drew)
        have hlsV := hls4.below HBV.out
        have hBV := hB4.trans (HBV.out.mono hB4.size)
        obtain ⟨s, hs⟩ : ∃ s, strOfNums (bs.take n) = s := ⟨_, rfl⟩
        have hta : ∀ z ∈ bs.take n, (Lit.int .u8 z).wf = true := fun z hz => HBS.out z (List.mem_of_mem_take hz)
        have HCV := Lib.hid (show ∀ W, Below V.heap.size V W → (convert 22 9 (.slice A2 n c2)).run Try.prog W = .ok (.string s) W from fun W hW => by rw [← hs]; exact conv_own (below_row (below_row hrow4 HBV.out) hW) hta)
        have HCW := Lib.hid (show ∀ W, Below V.heap.size V W → (convert 22 9 (.slice A n c)).run Try.prog W = .ok (.string s) W from fun W hW => by
          rw [← hs]
          exact run_str _ _ _ Try.underlying22 Try.underlying5 Try.underlying9 (((HA.out.take (m := n) (by omega)).below hBV).below hW))
        have hsl := fun W => slice_upto (P := Try.prog) 22 (by kernel_rfl) 1 (by kernel_rfl) A n c n (by omega) W
        have HRD := Lib.hid (landReads SL g bs sc n i V hlsV)
        have HBW := Lib.hid hBV
        have hia' : (i : Int) ≤ (n : Int) := by omega
        clear hs hta hls4 hgr4 hB4 hrow4 hlsV hBV HRE HRW
        go_wp2_with fail
        refine wp_region_held_drew (S := fun W => (convert 22 9 (.slice A2 n c2)).run Try.prog W = .ok (.string s) W ∧ (convert 22 9 (.slice A n c)).run Try.prog W = .ok (.string s) W) (by kernel_rfl) (by rw [← hV]; exact ⟨HCV.out V (Below.refl _ _), HCW.out V (Below.refl _ _)⟩) (fun hHeld => ?_)
        rw [← hV] at hHeld ⊢
        clear hV
        have HH := Lib.hid hHeld
        refine wpAnyH_take (i := 0) (oi := ?tko111) (v := ?tkv111) ?tkh111 (by kernel_rfl) (by kernel_rfl) (by kernel_rfl) ?tkq111 ?tky111 hHeld ?tkr111
        case tkh111 => (simp only [List.getElem?_toArray, List.getElem?_cons_zero]; rfl)
        case tkq111 => exact fun _ _ _ h => h
        case tky111 => exact Or.inl ⟨by rfl, by intro wSw hSw; (try dsimp only at hSw); go_simp; try with_reducible rfl⟩
        try simp only [Act.put, List.setIfInBounds_toArray, List.set_cons_zero, List.set_cons_succ]
        refine wpAnyH_take (i := 1) (oi := ?tko112) (v := ?tkv112) ?tkh112 (by kernel_rfl) (by kernel_rfl) (by kernel_rfl) ?tkq112 ?tky112 hHeld ?tkr112
        case tkh112 => (simp only [List.getElem?_toArray, List.getElem?_cons_succ, List.getElem?_cons_zero]; rfl)
        case tkq112 => exact fun _ _ _ h => h
        case tky112 => exact Or.inl ⟨by rfl, by intro wSw hSw; (try dsimp only at hSw); go_simp; try with_reducible rfl⟩
        try simp only [Act.put, List.setIfInBounds_toArray, List.set_cons_zero, List.set_cons_succ]
        refine wpAnyH_take (i := 2) (oi := ?tko113) (v := ?tkv113) ?tkh113 (by kernel_rfl) (by kernel_rfl) (by kernel_rfl) ?tkq113 ?tky113 hHeld ?tkr113
        case tkh113 => (simp only [List.getElem?_toArray, List.getElem?_cons_succ, List.getElem?_cons_zero]; rfl)
        case tkq113 => exact fun _ _ _ h => h
        case tky113 => exact Or.inl ⟨by rfl, by intro wSw hSw; (try dsimp only at hSw); go_simp; try with_reducible rfl⟩
        try simp only [Act.put, List.setIfInBounds_toArray, List.set_cons_zero, List.set_cons_succ]
        refine wpAnyH_take (i := 3) (oi := ?tko114) (v := ?tkv114) ?tkh114 (by kernel_rfl) (by kernel_rfl) (by kernel_rfl) ?tkq114 ?tky114 hHeld ?tkr114
        case tkh114 => (simp only [List.getElem?_toArray, List.getElem?_cons_succ, List.getElem?_cons_zero]; rfl)
        case tkq114 => exact fun _ _ _ h => h
        case tky114 => exact Or.inl ⟨by rfl, by intro wSw hSw; (try dsimp only at hSw); go_simp; try with_reducible rfl⟩
        try simp only [Act.put, List.setIfInBounds_toArray, List.set_cons_zero, List.set_cons_succ]
        refine wpAnyH_take (i := 4) (oi := ?tko115) (v := ?tkv115) ?tkh115 (by kernel_rfl) (by kernel_rfl) (by kernel_rfl) ?tkq115 ?tky115 hHeld ?tkr115
        case tkh115 => (simp only [List.getElem?_toArray, List.getElem?_cons_succ, List.getElem?_cons_zero]; rfl)
        case tkq115 => exact fun _ _ _ h => h
        case tky115 => exact Or.inl ⟨by rfl, by intro wSw hSw; (try dsimp only at hSw); go_simp; try with_reducible rfl⟩
        try simp only [Act.put, List.setIfInBounds_toArray, List.set_cons_zero, List.set_cons_succ]
        refine wpAnyH_take (i := 5) (oi := ?tko116) (v := ?tkv116) ?tkh116 (by kernel_rfl) (by kernel_rfl) (by kernel_rfl) ?tkq116 ?tky116 hHeld ?tkr116
        case tkh116 => (simp only [List.getElem?_toArray, List.getElem?_cons_succ, List.getElem?_cons_zero]; rfl)
        case tkq116 => exact fun _ _ _ h => h
        case tky116 => exact Or.inl ⟨by rfl, by intro wSw hSw; (try dsimp only at hSw); go_simp; try with_reducible rfl⟩
        try simp only [Act.put, List.setIfInBounds_toArray, List.set_cons_zero, List.set_cons_succ]
        refine wpAnyH_take (i := 6) (oi := ?tko117) (v := ?tkv117) ?tkh117 (by kernel_rfl) (by kernel_rfl) (by kernel_rfl) ?tkq117 ?tky117 hHeld ?tkr117
        case tkh117 => (simp only [List.getElem?_toArray, List.getElem?_cons_succ, List.getElem?_cons_zero]; rfl)
        case tkq117 => exact fun _ _ _ h => h
        case tky117 => exact Or.inl ⟨by rfl, by intro wSw hSw; (try dsimp only at hSw); go_simp; try with_reducible rfl⟩
        try simp only [Act.put, List.setIfInBounds_toArray, List.set_cons_zero, List.set_cons_succ]
        refine wpAnyH_take (i := 7) (oi := ?tko118) (v := ?tkv118) ?tkh118 (by kernel_rfl) (by kernel_rfl) (by kernel_rfl) ?tkq118 ?tky118 hHeld ?tkr118
        case tkh118 => (simp only [List.getElem?_toArray, List.getElem?_cons_succ, List.getElem?_cons_zero]; rfl)
        case tkq118 => exact fun _ _ _ h => h
        case tky118 => exact Or.inl ⟨by rfl, by intro wSw hSw; (try dsimp only at hSw); go_simp; try with_reducible rfl⟩
        try simp only [Act.put, List.setIfInBounds_toArray, List.set_cons_zero, List.set_cons_succ]
        refine wpAnyH_take (i := 8) (oi := ?tko119) (v := ?tkv119) ?tkh119 (by kernel_rfl) (by kernel_rfl) (by kernel_rfl) ?tkq119 ?tky119 hHeld ?tkr119
        case tkh119 => (simp only [List.getElem?_toArray, List.getElem?_cons_succ, List.getElem?_cons_zero]; rfl)
        case tkq119 => exact fun _ _ _ h => h
        case tky119 => exact Or.inl ⟨by rfl, by intro wSw hSw; (try dsimp only at hSw); go_simp; try with_reducible rfl⟩
        try simp only [Act.put, List.setIfInBounds_toArray, List.set_cons_zero, List.set_cons_succ]
        refine wpAnyH_take (i := 9) (oi := ?tko120) (v := ?tkv120) ?tkh120 (by kernel_rfl) (by kernel_rfl) (by kernel_rfl) ?tkq120 ?tky120 hHeld ?tkr120
        case tkh120 => (simp only [List.getElem?_toArray, List.getElem?_cons_succ, List.getElem?_cons_zero]; rfl)
        case tkq120 => exact fun _ _ _ h => h
        case tky120 => exact Or.inl ⟨by rfl, by intro wSw hSw; (try dsimp only at hSw); go_simp; try with_reducible rfl⟩
        try simp only [Act.put, List.setIfInBounds_toArray, List.set_cons_zero, List.set_cons_succ]
        refine wpAnyH_take (i := 10) (oi := ?tko121) (v := ?tkv121) ?tkh121 (by kernel_rfl) (by kernel_rfl) (by kernel_rfl) ?tkq121 ?tky121 hHeld ?tkr121
        case tkh121 => (simp only [List.getElem?_toArray, List.getElem?_cons_succ, List.getElem?_cons_zero]; rfl)
        case tkq121 => exact fun _ _ _ h => h
        case tky121 => exact Or.inl ⟨by rfl, by intro wSw hSw; (try dsimp only at hSw); go_simp; try with_reducible rfl⟩
        try simp only [Act.put, List.setIfInBounds_toArray, List.set_cons_zero, List.set_cons_succ]
        refine wpAnyH_take (i := 11) (oi := ?tko122) (v := ?tkv122) ?tkh122 (by kernel_rfl) (by kernel_rfl) (by kernel_rfl) ?tkq122 ?tky122 hHeld ?tkr122
        case tkh122 => (simp only [List.getElem?_toArray, List.getElem?_cons_succ, List.getElem?_cons_zero]; rfl)
        case tkq122 => exact fun _ _ _ h => h
        case tky122 => exact Or.inl ⟨by rfl, by intro wSw hSw; (try dsimp only at hSw); go_simp; try with_reducible rfl⟩
        try simp only [Act.put, List.setIfInBounds_toArray, List.set_cons_zero, List.set_cons_succ]
        refine wpAnyH_take (i := 12) (oi := ?tko123) (v := ?tkv123) ?tkh123 (by kernel_rfl) (by kernel_rfl) (by kernel_rfl) ?tkq123 ?tky123 hHeld ?tkr123
        case tkh123 => (simp only [List.getElem?_toArray, List.getElem?_cons_succ, List.getElem?_cons_zero]; rfl)
        case tkq123 => exact fun _ _ _ h => h
        case tky123 => exact Or.inl ⟨by rfl, by intro wSw hSw; (try dsimp only at hSw); go_simp; try with_reducible rfl⟩
        try simp only [Act.put, List.setIfInBounds_toArray, List.set_cons_zero, List.set_cons_succ]
        refine wpAnyH_take (i := 13) (oi := ?tko124) (v := ?tkv124) ?tkh124 (by kernel_rfl) (by kernel_rfl) (by kernel_rfl) ?tkq124 ?tky124 hHeld ?tkr124
        case tkh124 => (simp only [List.getElem?_toArray, List.getElem?_cons_succ, List.getElem?_cons_zero]; rfl)
        case tkq124 => exact fun _ _ _ h => h
        case tky124 => exact Or.inl ⟨by rfl, by intro wSw hSw; (try dsimp only at hSw); go_simp; try with_reducible rfl⟩
        try simp only [Act.put, List.setIfInBounds_toArray, List.set_cons_zero, List.set_cons_succ]
        refine wpAnyH_take (i := 15) (oi := ?tko125) (v := ?tkv125) ?tkh125 (by kernel_rfl) (by kernel_rfl) (by kernel_rfl) ?tkq125 ?tky125 hHeld ?tkr125
        case tkh125 => (simp only [List.getElem?_toArray, List.getElem?_cons_succ, List.getElem?_cons_zero]; rfl)
        case tkq125 => exact fun _ _ _ h => h
        case tky125 => exact Or.inl ⟨by rfl, by intro wSw hSw; (try dsimp only at hSw); go_simp; try with_reducible rfl⟩
        try simp only [Act.put, List.setIfInBounds_toArray, List.set_cons_zero, List.set_cons_succ]
        refine wpAnyH_ready (rs := [14]) (by kernel_rfl) (by simp) ?_
        refine AllReadyH.cons (o := ?tko126) ?tkh126 (fun Kt126 hKt126 => ?_) AllReadyH.nil
        case tkh126 => (simp only [List.getElem?_toArray, List.getElem?_cons_succ, List.getElem?_cons_zero]; rfl)
        go_simp
        (go_at_call 11; refine HRD.out.mono ?_; rintro e v6 ⟨rfl, rfl⟩)
        refine hKt126.out _ _ ?_ (fun hHt126 => ?_)
        · (exact HH.out)
        clear hKt126 Kt126 hHeld
        have hHeld := hHt126
        clear hHt126
        try simp only [Act.put, List.setIfInBounds_toArray, List.set_cons_zero, List.set_cons_succ]
        refine wpAnyH_take (i := 16) (oi := ?tko127) (v := ?tkv127) ?tkh127 (by kernel_rfl) (by kernel_rfl) (by kernel_rfl) ?tkq127 ?tky127 hHeld ?tkr127
        case tkh127 => (simp only [List.getElem?_toArray, List.getElem?_cons_succ, List.getElem?_cons_zero]; rfl)
        case tkq127 => exact fun _ _ _ h => h
        case tky127 => exact Or.inl ⟨by rfl, by intro wSw hSw; (try dsimp only at hSw); go_simp; try with_reducible rfl⟩
        try simp only [Act.put, List.setIfInBounds_toArray, List.set_cons_zero, List.set_cons_succ]
        refine wpAnyH_take (i := 17) (oi := ?tko128) (v := ?tkv128) ?tkh128 (by kernel_rfl) (by kernel_rfl) (by kernel_rfl) ?tkq128 ?tky128 hHeld ?tkr128
        case tkh128 => (simp only [List.getElem?_toArray, List.getElem?_cons_succ, List.getElem?_cons_zero]; rfl)
        case tkq128 => exact fun _ _ _ h => h
        case tky128 => exact Or.inl ⟨by rfl, by intro wSw hSw; (try dsimp only at hSw); go_simp; try with_reducible rfl⟩
        try simp only [Act.put, List.setIfInBounds_toArray, List.set_cons_zero, List.set_cons_succ]
        refine wpAnyH_take (i := 18) (oi := ?tko129) (v := ?tkv129) ?tkh129 (by kernel_rfl) (by kernel_rfl) (by kernel_rfl) ?tkq129 ?tky129 hHeld ?tkr129
        case tkh129 => (simp only [List.getElem?_toArray, List.getElem?_cons_succ, List.getElem?_cons_zero]; rfl)
        case tkq129 => exact fun _ _ _ h => h
        case tky129 => exact Or.inl ⟨by rfl, by intro wSw hSw; (try dsimp only at hSw); go_simp; try with_reducible rfl⟩
        try simp only [Act.put, List.setIfInBounds_toArray, List.set_cons_zero, List.set_cons_succ]
        refine wpAnyH_ready (rs := [19]) (by kernel_rfl) (by simp) ?_
        refine AllReadyH.cons (o := ?tko130) ?tkh130 (fun Kt130 hKt130 => ?_) AllReadyH.nil
        case tkh130 => (simp only [List.getElem?_toArray, List.getElem?_cons_succ, List.getElem?_cons_zero]; rfl)
        go_simp
        (go_at_call 13; refine (lawAwake _).mono ?_; rintro e v7 ⟨rfl, hd7⟩)
        refine hKt130.out _ _ ?_ (fun hHt130 => ?_)
        · (exact ⟨HCV.out _ hd7, HCW.out _ hd7⟩)
        clear hKt130 Kt130 hHeld
        have hHeld := hHt130
        clear hHt130
        try simp only [Act.put, List.setIfInBounds_toArray, List.set_cons_zero, List.set_cons_succ]
        refine wpAnyH_take (i := 20) (oi := ?tko131) (v := ?tkv131) ?tkh131 (by kernel_rfl) (by kernel_rfl) (by kernel_rfl) ?tkq131 ?tky131 hHeld ?tkr131
        case tkh131 => (simp only [List.getElem?_toArray, List.getElem?_cons_succ, List.getElem?_cons_zero]; rfl)
        case tkq131 => exact fun _ _ _ h => h
        case tky131 => exact Or.inl ⟨by rfl, by intro wSw hSw; (try dsimp only at hSw); go_simp; try with_reducible rfl⟩
        try simp only [Act.put, List.setIfInBounds_toArray, List.set_cons_zero, List.set_cons_succ]
        refine wpAnyH_take (i := 21) (oi := ?tko132) (v := ?tkv132) ?tkh132 (by kernel_rfl) (by kernel_rfl) (by kernel_rfl) ?tkq132 ?tky132 hHeld ?tkr132
        case tkh132 => (simp only [List.getElem?_toArray, List.getElem?_cons_succ, List.getElem?_cons_zero]; rfl)
        case tkq132 => exact fun _ _ _ h => h
        case tky132 => exact Or.inl ⟨by rfl, by intro wSw hSw; (try dsimp only at hSw); go_simp; try with_reducible rfl⟩
        try simp only [Act.put, List.setIfInBounds_toArray, List.set_cons_zero, List.set_cons_succ]
        refine wpAnyH_done (by kernel_rfl) ?_ _
        clear hHeld
        go_wp2
        go_ret
        exact ⟨rfl, HBW.out.trans (hd7.mono HBW.out.size)⟩
end Go.Proofs.Ytidailkpkcgmjaa.Src
