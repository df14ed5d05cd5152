/-
  The walk of the law RecordCanon (stage 9). By an AI agent.
-/
import Derived.Test.YtpcahfjejbiocaaRecordLaw2
import Derived.Test.YtpcahfjejbiocaaRecordMath
namespace Go.Proofs.Ytpcahfjejbiocaa.Record
open Go.RowKit Go.Proofs.Ytpcahfjejbiocaa.Ints Go.Proofs.Ytpcahfjejbiocaa.Mem Go.Proofs.Ytpcahfjejbiocaa.SumMath Go.Proofs.Ytpcahfjejbiocaa.SumWalks Go.Proofs.Ytpcahfjejbiocaa.Trace

/-- A record of the laws' own, with one byte changed: what Put(nil, e) leaves. -/
theorem put_nil {x : Ev} (K : Option Addr) (k : Nat) (w : World) (hx : EvOk w x K k) (hok : idsOk x.ids 64 = true) :
    Calls Try.prog 10 #[.slice none 0 0, .agg #[.int .u64 x.time, .slice K x.ids.length k]] w fun e w' => ∃ g c, e = .returned (.slice (some ⟨g, 0, none⟩) (14 + x.ids.length) c) ∧
      Rd .u8 w' (some ⟨g, 0, none⟩) (14 + x.ids.length) (recR x) ∧ 14 + x.ids.length ≤ c ∧ c ≤ maxLen ∧ w.heap.size ≤ g ∧ w'.ownsRow w.heap.size 5 1 (.slice (some ⟨g, 0, none⟩) (14 + x.ids.length) c) (14 + x.ids.length) ((recR x).map (Value.int .u8)) ∧ Below w.heap.size w w' := by
  refine (landPut none 0 0 [] x K k w (fun _ => rfl) (Nat.le_refl _) (by decide) (Rd.nil _ _ _) hx).mono fun e w' h => ?_
  have hp : putR [] x = recR x := by unfold putR; rw [if_pos hok]; rfl
  rw [hp] at h
  obtain ⟨A1, c1, he, hr, hc, hm, -, hown, hb⟩ := made_slice h (u8_all (rec_bytes hok))
  rw [rec_len] at he hr hc hown
  obtain ⟨g, cap, e1, hg, -⟩ := own_form hown (by omega)
  injection e1 with e1 _ e2
  subst e1; subst e2
  exact ⟨g, c1, he, hr, hc, hm, hg, hown, hb⟩

set_option maxHeartbeats 8000000 in
set_option maxRecDepth 100000 in
theorem lawCanon (A : Option Addr) (n c : Nat) (zs : List Int) (p t : Int) (b : Nat) (a x : Nat) (w : World) (hnc : n ≤ c) (hc : c ≤ maxLen) (h : Rd .u8 w A n zs)
    (ht : (Lit.int .u64 t).wf = true) (hb : b < 18446744073709551616) (ha : a ≤ 255) (hx : x ≤ 255) :
    Calls Try.prog 7 #[.slice A n c, .int .i64 p, .int .u64 t, .int .u64 (b : Int), .int .u8 (a : Int), .int .u8 (x : Int)] w fun e w' => e = .returned (.bool true) ∧ Below w.heap.size w w' := by
  have q63 : maxLen = 9223372036854775807 := rfl
  have FE := lawEvent t b (b : Int) rfl w ht hb
  obtain ⟨v, hv⟩ : ∃ v, evB t b = v := ⟨_, rfl⟩
  have hok : idsOk v.ids 64 = true := by rw [← hv]; exact bits_ok b
  have hcnt := ids_count hok
  rw [hv] at FE
  have HE := Lib.hid FE
  have HOK := Lib.hid hok
  have HZ := Lib.hid h
  obtain ⟨m, hm⟩ : ∃ m, v.ids.length = m := ⟨_, rfl⟩
  rw [hm] at hcnt
  have hm64 : m ≤ 64 := by omega
  have HM := Lib.hid hm
  obtain ⟨i, hi, hil⟩ : ∃ i : Nat, (a : Int) % ((14 + m : Nat) : Int) = (i : Int) ∧ i < 14 + m := ⟨a % (14 + m), by rw [Int.natCast_emod], Nat.mod_lt _ (by omega)⟩
  have HI := Lib.hid hi
  clear FE hv hok hm h hcnt hi
  go_enter Try.func7, Try.ntmps7
  go_wp2_with fail
  refine HE.out.mono ?_
  rintro e w1 ⟨K, k, rfl, hk, hB1, -⟩
  have FP := put_nil K k w1 hk HOK.out
  rw [HM.out] at FP ⊢
  have HP := Lib.hid FP
  have HB1 := Lib.hid hB1
  clear FP hk hB1 HE
  go_wp2_with fail
  refine HP.out.mono ?_
  rintro e w2 ⟨g, c1, rfl, hr, hc1, hm1, hg, hown, hB2⟩
  have hbd := hr.u8 i hil
  have hcell := own_cell hown hil
  have hfz := hown.frozenAt i
  obtain ⟨z, hz⟩ : ∃ z, (recR v)[i]?.getD 0 = z := ⟨_, rfl⟩
  rw [hz] at hbd hcell
  have hxo := (xor_u8 z (x : Int) hbd ⟨by omega, by omega⟩).1
  obtain ⟨z0, z1⟩ := hbd
  obtain ⟨N, hN⟩ : ∃ N, 14 + m = N := ⟨_, rfl⟩
  rw [hN] at hr hc1 hown hil ⊢
  have hmod := HI.out
  rw [hN] at hmod
  have HR := Lib.hid hr
  have HO := Lib.hid hown
  have HX := Lib.hid hxo
  have HB2 := Lib.hid (HB1.out.trans (hB2.mono HB1.out.size))
  have hgw : w.heap.size ≤ g := Nat.le_trans HB1.out.size hg
  have HN := Lib.hid hN
  have hn0 : ((N : Int) == 0) = false := by simp; omega
  have hn1 : (i : Int) < (N : Int) := by omega
  have hn2 : ¬ N = 0 := by omega
  clear hr hown hB2 hz hxo HP HI hN
  go_wp2_with fail
  obtain ⟨y, hy⟩ : ∃ y, bits .xor .u8 z (x : Int) = y := ⟨_, rfl⟩
  rw [hy] at HX ⊢
  have HC := Lib.hid (show Rd .u8 (w2.setCell ⟨g, i, none⟩ (.int .u8 y)) (some ⟨g, 0, none⟩) N ((recR v).set i y) from Rd.own (own_set HO.out i y) (wf_set HR.out.all (u8_wf HX.out)))
  have HBV := Lib.hid (show Below w.heap.size w (w2.setCell ⟨g, i, none⟩ (.int .u8 y)) from HB2.out.setCell hgw _)
  obtain ⟨V, hV⟩ : ∃ V, w2.setCell ⟨g, i, none⟩ (.int .u8 y) = V := ⟨_, rfl⟩
  rw [hV] at HC HBV ⊢
  obtain ⟨cs, hcs⟩ : ∃ cs, (recR v).set i y = cs := ⟨_, rfl⟩
  rw [hcs] at HC
  clear hy hV hcs hcell hfz hmod
  have hidx0 : ∀ W, (Instr.index 39 (.agg #[.slice A n c, .slice (some ⟨g, 0, none⟩) N c1]) (.int .i64 0)).run Try.prog W = .ok (.slice A n c) W := fun W => by kernel_rfl
  have hidx1 : ∀ W, (Instr.index 39 (.agg #[.slice A n c, .slice (some ⟨g, 0, none⟩) N c1]) (.int .i64 1)).run Try.prog W = .ok (.slice (some ⟨g, 0, none⟩) N c1) W := fun W => by kernel_rfl
  have HI0 := Lib.hid hidx0
  have HI1 := Lib.hid hidx1
  clear hidx0 hidx1
  go_loopw [40] (fun i wr => ∃ (k : Nat) (z : Int), k ≤ 2 ∧ i = .int .i64 z ∧ z = k ∧ Below V.heap.size V wr) (fun i _ => 2 - (intOf i).toNat)
  case atStart => exact ⟨0, 0, Nat.zero_le _, rfl, rfl, Below.refl _ _⟩
  case round =>
    obtain ⟨k, zk, hk, rfl, hzk, hBr⟩ := hrel
    have HBr := Lib.hid hBr
    have hBw := HBV.out.trans (hBr.mono HBV.out.size)
    have HBW := Lib.hid hBw
    by_cases hk2 : k < 2
    · obtain ⟨Y, ny, cy, ys, hidx, hrd, hny, hcy⟩ : ∃ Y ny cy ys, (∀ W, (Instr.index 39 (.agg #[.slice A n c, .slice (some ⟨g, 0, none⟩) N c1]) (.int .i64 zk)).run Try.prog W = .ok (.slice Y ny cy) W) ∧ Rd .u8 wr Y ny ys ∧ ny ≤ cy ∧ cy ≤ maxLen := by
        by_cases hk0 : k = 0
        · obtain rfl : zk = 0 := by omega
          exact ⟨A, n, c, zs, HI0.out, HZ.out.below hBw, hnc, hc⟩
        · obtain rfl : zk = 1 := by omega
          exact ⟨some ⟨g, 0, none⟩, N, c1, cs, HI1.out, HC.out.below hBr, hc1, hm1⟩
      have FG := landGet Y ny cy ys p wr hny hcy hrd
      have hlt2 : zk < 2 := by omega
      have hge0 : (0 : Int) ≤ zk := by omega
      have PG := Lib.hid (fun h => put_get (b := ys) (p := p) (all_u8 hrd.all) h)
      have HRY := Lib.hid hrd
      have HLY := Lib.hid hrd.len
      have HLC := Lib.hid (show ∀ h0 : errR ys (propsR p) = 0, idsOk (getE ys p).ids 64 = true from fun h0 => by
        unfold getE
        rw [if_pos h0]
        exact ids_wide (props_bd p).2 (err_zero h0).2.2)
      unfold GotGet at FG
      obtain ⟨e, he⟩ : ∃ e, getE ys p = e := ⟨_, rfl⟩
      obtain ⟨q, hq⟩ : ∃ q, getN ys p = q := ⟨_, rfl⟩
      obtain ⟨f, hf⟩ : ∃ f, errR ys (propsR p) = f := ⟨_, rfl⟩
      rw [he, hq, hf] at FG
      rw [he, hq, hf] at PG
      rw [he, hf] at HLC
      have HG := Lib.hid FG
      have HZK := Lib.hid hzk
      clear FG hrd he hq hf hzk hBr hBw
      go_wp2_with fail
      refine HG.out.mono ?_
      rintro e' w3 ⟨K3, k3, rfl, hk3, hB3, -⟩
      have b3 := Blk.new w3 #[.int .u64 e.time, .slice K3 e.ids.length k3] 26 [.int .u64 e.time, .slice K3 e.ids.length k3] rfl
      have hal := (Below.refl _ w3).alloc (Nat.le_refl _) (.cells #[.int .u64 e.time, .slice K3 e.ids.length k3] 26)
      have hk3' := hk3.below hal
      have HB4 := Lib.hid (HBr.out.trans ((hB3.trans (hal.mono hB3.size)).mono HBr.out.size))
      have HR4 := Lib.hid (HRY.out.below (hB3.trans (hal.mono hB3.size)))
      have HK3 := Lib.hid hk3'
      have B3 := Lib.hid b3
      clear b3 hal hk3 hk3' hB3
      by_cases hf0 : f = 0
      · subst hf0
        obtain ⟨hqn, hpe⟩ := PG.out rfl
        have hqc : q ≤ cy := by have := HLY.out; omega
        have hq1 : ((q : Int) > (ny : Int)) = False := by have := HLY.out; simp; omega
        have hq2 : decide ((q : Int) > (ny : Int)) = false := by have := HLY.out; simp; omega
        have hq3 : (q : Int) ≤ (cy : Int) := by omega
        have hcv := HR4.out.take (m := q) (by have := HLY.out; omega)
        obtain ⟨s, hs⟩ : ∃ s, strOfNums (ys.take q) = s := ⟨_, rfl⟩
        have FP := Lib.hid ((landPut none 0 0 [] e K3 k3 _ (fun _ => rfl) (Nat.le_refl _) (by decide) (Rd.nil _ _ _) (HK3.out.below ((Below.refl _ _).drew))).mono fun _ _ hm => got_str (fun z hz => by cases hz) hm)
        rw [hpe, hs] at FP
        have hc4 := fun W (hW : Below (w3.alloc (.cells #[.int .u64 e.time, .slice K3 e.ids.length k3] 26)).heap.size (w3.alloc (.cells #[.int .u64 e.time, .slice K3 e.ids.length k3] 26)) W) => str_of (c := cy) (hcv.below hW)
        rw [hs] at hc4
        have HC4 := Lib.hid hc4
        obtain ⟨m3, hm3⟩ : ∃ m3, e.ids.length = m3 := ⟨_, rfl⟩
        obtain ⟨t3, ht3⟩ : ∃ t3, e.time = t3 := ⟨_, rfl⟩
        rw [hm3, ht3] at FP HB4 B3 HC4 ⊢
        clear hcv hs hc4 hpe hqn HK3 HR4 hm3 ht3
        go_wp2_with fail
        obtain ⟨V4, hV4⟩ : ∃ V4, V4 = (w3.alloc (.cells #[.int .u64 t3, .slice K3 m3 k3] 26)).drew := ⟨_, rfl⟩
        have B4 := Lib.hid (show Blk V4 w3.heap.size [.int .u64 t3, .slice K3 m3 k3] by rw [hV4]; exact B3.out.drew)
        have HB5 := Lib.hid (show Below V.heap.size V V4 by rw [hV4]; exact HB4.out.drew)
        have HC5 := Lib.hid (show ∀ W, Below V4.heap.size V4 W → (convert 22 9 (.slice Y q cy)).run Try.prog W = .ok (.string s) W from fun W hW => HC4.out W (by rw [hV4] at hW; exact (Below.refl _ _).drew.trans hW))
        rw [← hV4] at FP
        refine wp_region_held_drew (S := fun W => (W.cell? ⟨w3.heap.size, 0, none⟩ = some (.int .u64 t3) ∧ W.cell? ⟨w3.heap.size, 1, none⟩ = some (.slice K3 m3 k3)) ∧ (convert 22 9 (.slice Y q cy)).run Try.prog W = .ok (.string s) W) (by kernel_rfl) (by rw [← hV4]; exact ⟨⟨B4.out.cell 0 rfl, B4.out.cell 1 rfl⟩, HC5.out _ (Below.refl _ _)⟩) (fun hHeld => ?_)
        rw [← hV4] at hHeld ⊢
        clear hV4 HC4 B3 HB4
        refine wpAnyH_take (i := 0) (oi := ?tko1) (v := ?tkv1) ?tkh1 (by kernel_rfl) (by kernel_rfl) (by kernel_rfl) ?tkq1 ?tky1 hHeld ?tkr1
        case tkh1 => (simp only [List.getElem?_toArray, List.getElem?_cons_zero]; rfl)
        case tkq1 => exact fun _ _ _ h => h
        case tky1 => exact Or.inl ⟨by rfl, by intro wSw hSw; (try dsimp only at hSw); go_simp; try with_reducible rfl⟩
        try simp only [Act.put, List.setIfInBounds_toArray, List.set_cons_zero, List.set_cons_succ]
        refine wpAnyH_take (i := 1) (oi := ?tko2) (v := ?tkv2) ?tkh2 (by kernel_rfl) (by kernel_rfl) (by kernel_rfl) ?tkq2 ?tky2 hHeld ?tkr2
        case tkh2 => (simp only [List.getElem?_toArray, List.getElem?_cons_succ, List.getElem?_cons_zero]; rfl)
        case tkq2 => exact fun _ _ _ h => h
        case tky2 => exact Or.inl ⟨by rfl, by intro wSw hSw; (try dsimp only at hSw); go_simp; try with_reducible rfl⟩
        try simp only [Act.put, List.setIfInBounds_toArray, List.set_cons_zero, List.set_cons_succ]
        refine wpAnyH_take (i := 2) (oi := ?tko3) (v := ?tkv3) ?tkh3 (by kernel_rfl) (by kernel_rfl) (by kernel_rfl) ?tkq3 ?tky3 hHeld ?tkr3
        case tkh3 => (simp only [List.getElem?_toArray, List.getElem?_cons_succ, List.getElem?_cons_zero]; rfl)
        case tkq3 => exact fun _ _ _ h => h
        case tky3 => exact Or.inl ⟨by rfl, by intro wSw hSw; (try dsimp only at hSw); go_simp; try with_reducible rfl⟩
        try simp only [Act.put, List.setIfInBounds_toArray, List.set_cons_zero, List.set_cons_succ]
        refine wpAnyH_take (i := 3) (oi := ?tko4) (v := ?tkv4) ?tkh4 (by kernel_rfl) (by kernel_rfl) (by kernel_rfl) ?tkq4 ?tky4 hHeld ?tkr4
        case tkh4 => (simp only [List.getElem?_toArray, List.getElem?_cons_succ, List.getElem?_cons_zero]; rfl)
        case tkq4 => exact fun _ _ _ h => h
        case tky4 => exact Or.inl ⟨by rfl, by intro wSw hSw; (try dsimp only at hSw); go_simp; try with_reducible rfl⟩
        try simp only [Act.put, List.setIfInBounds_toArray, List.set_cons_zero, List.set_cons_succ]
        refine wpAnyH_take (i := 4) (oi := ?tko5) (v := ?tkv5) ?tkh5 (by kernel_rfl) (by kernel_rfl) (by kernel_rfl) ?tkq5 ?tky5 hHeld ?tkr5
        case tkh5 => (simp only [List.getElem?_toArray, List.getElem?_cons_succ, List.getElem?_cons_zero]; rfl)
        case tkq5 => exact fun _ _ _ h => h
        case tky5 => exact Or.inl ⟨by rfl, by intro wSw hSw; (try dsimp only at hSw); go_simp; try with_reducible rfl⟩
        try simp only [Act.put, List.setIfInBounds_toArray, List.set_cons_zero, List.set_cons_succ]
        refine wpAnyH_take (i := 5) (oi := ?tko6) (v := ?tkv6) ?tkh6 (by kernel_rfl) (by kernel_rfl) (by kernel_rfl) ?tkq6 ?tky6 hHeld ?tkr6
        case tkh6 => (simp only [List.getElem?_toArray, List.getElem?_cons_succ, List.getElem?_cons_zero]; rfl)
        case tkq6 => exact fun _ _ _ h => h
        case tky6 => exact Or.inl ⟨by rfl, by intro wSw hSw; (try dsimp only at hSw); go_simp; try with_reducible rfl⟩
        try simp only [Act.put, List.setIfInBounds_toArray, List.set_cons_zero, List.set_cons_succ]
        refine wpAnyH_take (i := 8) (oi := ?tko7) (v := ?tkv7) ?tkh7 (by kernel_rfl) (by kernel_rfl) (by kernel_rfl) ?tkq7 ?tky7 hHeld ?tkr7
        case tkh7 => (simp only [List.getElem?_toArray, List.getElem?_cons_succ, List.getElem?_cons_zero]; rfl)
        case tkq7 => exact fun _ _ _ h => h
        case tky7 => exact Or.inl ⟨by rfl, by intro wSw hSw; (try dsimp only at hSw); go_simp; try with_reducible rfl⟩
        try simp only [Act.put, List.setIfInBounds_toArray, List.set_cons_zero, List.set_cons_succ]
        refine wpAnyH_take (i := 9) (oi := ?tko8) (v := ?tkv8) ?tkh8 (by kernel_rfl) (by kernel_rfl) (by kernel_rfl) ?tkq8 ?tky8 hHeld ?tkr8
        case tkh8 => (simp only [List.getElem?_toArray, List.getElem?_cons_succ, List.getElem?_cons_zero]; rfl)
        case tkq8 => exact fun _ _ _ h => h
        case tky8 => exact Or.inl ⟨by rfl, by intro wSw hSw; (try dsimp only at hSw); go_simp; try with_reducible rfl⟩
        try simp only [Act.put, List.setIfInBounds_toArray, List.set_cons_zero, List.set_cons_succ]
        refine wpAnyH_take (i := 10) (oi := ?tko9) (v := ?tkv9) ?tkh9 (by kernel_rfl) (by kernel_rfl) (by kernel_rfl) ?tkq9 ?tky9 hHeld ?tkr9
        case tkh9 => (simp only [List.getElem?_toArray, List.getElem?_cons_succ, List.getElem?_cons_zero]; rfl)
        case tkq9 => exact fun _ _ _ h => h
        case tky9 => exact Or.inl ⟨by rfl, by intro wSw hSw; (try dsimp only at hSw); go_simp; try with_reducible rfl⟩
        try simp only [Act.put, List.setIfInBounds_toArray, List.set_cons_zero, List.set_cons_succ]
        refine wpAnyH_take (i := 11) (oi := ?tko10) (v := ?tkv10) ?tkh10 (by kernel_rfl) (by kernel_rfl) (by kernel_rfl) ?tkq10 ?tky10 hHeld ?tkr10
        case tkh10 => (simp only [List.getElem?_toArray, List.getElem?_cons_succ, List.getElem?_cons_zero]; rfl)
        case tkq10 => exact fun _ _ _ h => h
        case tky10 => exact Or.inl ⟨by rfl, by intro wSw hSw; (try dsimp only at hSw); go_simp; try with_reducible rfl⟩
        try simp only [Act.put, List.setIfInBounds_toArray, List.set_cons_zero, List.set_cons_succ]
        refine wpAnyH_ready (rs := [6]) (by kernel_rfl) (by simp) ?_
        refine AllReadyH.cons (o := ?tko11) ?tkh11 (fun Kt11 hKt11 => ?_) AllReadyH.nil
        case tkh11 => (simp only [List.getElem?_toArray, List.getElem?_cons_succ, List.getElem?_cons_zero]; rfl)
        go_simp
        (go_at_call 10; refine FP.out.mono ?_; rintro e2 v1 ⟨A1, n1, c1', rfl, hcx, hd1⟩; have k1 := B4.out.later hd1)
        refine hKt11.out _ _ ?_ (fun hHt11 => ?_)
        · (exact ⟨⟨k1.cell 0 rfl, k1.cell 1 rfl⟩, HC5.out _ hd1⟩)
        clear hKt11 Kt11 hHeld
        have hHeld := hHt11
        clear hHt11
        try simp only [Act.put, List.setIfInBounds_toArray, List.set_cons_zero, List.set_cons_succ]
        refine Held.more (fun W => ((W.cell? ⟨w3.heap.size, 0, none⟩ = some (.int .u64 t3) ∧ W.cell? ⟨w3.heap.size, 1, none⟩ = some (.slice K3 m3 k3)) ∧ (convert 22 9 (.slice Y q cy)).run Try.prog W = .ok (.string s) W) ∧ (convert 22 9 (.slice A1 n1 c1')).run Try.prog W = .ok (.string s) W) (fun W h => h.1) ⟨hHeld, hcx _ (Below.refl _ _)⟩ (fun hHeld => ?_)
        refine wpAnyH_take (i := 7) (oi := ?tko12) (v := ?tkv12) ?tkh12 (by kernel_rfl) (by kernel_rfl) (by kernel_rfl) ?tkq12 ?tky12 hHeld ?tkr12
        case tkh12 => (simp only [List.getElem?_toArray, List.getElem?_cons_succ, List.getElem?_cons_zero]; rfl)
        case tkq12 => exact fun _ _ _ h => h
        case tky12 => exact Or.inl ⟨by rfl, by intro wSw hSw; (try dsimp only at hSw); go_simp; try with_reducible rfl⟩
        try simp only [Act.put, List.setIfInBounds_toArray, List.set_cons_zero, List.set_cons_succ]
        refine wpAnyH_take (i := 12) (oi := ?tko13) (v := ?tkv13) ?tkh13 (by kernel_rfl) (by kernel_rfl) (by kernel_rfl) ?tkq13 ?tky13 hHeld ?tkr13
        case tkh13 => (simp only [List.getElem?_toArray, List.getElem?_cons_succ, List.getElem?_cons_zero]; rfl)
        case tkq13 => exact fun _ _ _ h => h
        case tky13 => exact Or.inl ⟨by rfl, by intro wSw hSw; (try dsimp only at hSw); go_simp; try with_reducible rfl⟩
        try simp only [Act.put, List.setIfInBounds_toArray, List.set_cons_zero, List.set_cons_succ]
        refine wpAnyH_take (i := 13) (oi := ?tko14) (v := ?tkv14) ?tkh14 (by kernel_rfl) (by kernel_rfl) (by kernel_rfl) ?tkq14 ?tky14 hHeld ?tkr14
        case tkh14 => (simp only [List.getElem?_toArray, List.getElem?_cons_succ, List.getElem?_cons_zero]; rfl)
        case tkq14 => exact fun _ _ _ h => h
        case tky14 => exact Or.inl ⟨by rfl, by intro wSw hSw; (try dsimp only at hSw); go_simp; try with_reducible rfl⟩
        try simp only [Act.put, List.setIfInBounds_toArray, List.set_cons_zero, List.set_cons_succ]
        refine wpAnyH_done (by kernel_rfl) ?_ _
        clear hHeld
        have HB6 := Lib.hid (HB5.out.trans (hd1.mono HB5.out.size))
        clear hd1 hcx k1
        go_wp2
        go_roundw
        case rel => exact ⟨k + 1, zk + 1, by omega, rfl, by have := HZK.out; omega, HB6.out⟩
        case measure => simp [intOf]; omega
      · have hfne : ((f : Int) == 0) = false := by simp; omega
        go_wp2
        go_roundw
        case rel => exact ⟨k + 1, zk + 1, by omega, rfl, by have := HZK.out; omega, HB4.out⟩
        case measure => simp [intOf]; omega
    · obtain rfl : k = 2 := by omega
      obtain rfl : zk = 2 := by omega
      clear hBr hBw hzk
      go_wp2_with fail
      refine (awake wr).mono ?_
      rintro e w7 ⟨rfl, hB8⟩
      go_wp2
      go_ret
      exact ⟨rfl, HBW.out.trans (hB8.mono HBW.out.size)⟩
end Go.Proofs.Ytpcahfjejbiocaa.Record
