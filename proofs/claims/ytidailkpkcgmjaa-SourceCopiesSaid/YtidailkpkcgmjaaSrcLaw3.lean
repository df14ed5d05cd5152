/-
  The walk of the law SourceCopies (stage 11). By an AI agent.
-/
import Derived.Test.YtidailkpkcgmjaaSrcAwake
import Derived.Test.YtidailkpkcgmjaaSrcRef
namespace Go.Proofs.Ytidailkpkcgmjaa.Src
open Go.RowKit Go.Proofs.Ytidailkpkcgmjaa.Ints Go.Proofs.Ytidailkpkcgmjaa.Mem

/-- A row of integers of the call's own, each of its kind. -/
def OwnK (k : IntKind) (e : TypeId) (w : World) (base : Nat) (v : Value) (n : Nat) : Prop := ∃ zs : List Int, (∀ z ∈ zs, (Lit.int k z).wf = true) ∧ w.ownsRow base e 1 v n (zs.map (Value.int k))
theorem OwnK.lt {k : IntKind} {e : TypeId} {w : World} {base : Nat} {v : Value} {n : Nat} (h : OwnK k e w base v n) : ∀ q, v.ownBlock = some q → base ≤ q ∧ q < w.heap.size := by
  obtain ⟨zs, -, h2⟩ := h
  exact h2.lt
theorem OwnK.below {k : IntKind} {e : TypeId} {w w' : World} {base : Nat} {v : Value} {n : Nat} (h : OwnK k e w base v n) (hb : Below w.heap.size w w') : OwnK k e w' base v n := by
  obtain ⟨zs, h1, h2⟩ := h
  exact ⟨zs, h1, below_row h2 hb⟩
theorem OwnK.kept {k : IntKind} {e : TypeId} {w w' : World} {base : Nat} {v : Value} {n : Nat} {row : Option Nat} (h : OwnK k e w base v n) (hg : w.grownBy w' row) (hne : v.ownBlock = none ∨ v.ownBlock ≠ row) : OwnK k e w' base v n := by
  obtain ⟨zs, h1, h2⟩ := h
  exact ⟨zs, h1, h2.kept hg hne⟩
theorem OwnK.set {k : IntKind} {e : TypeId} {w : World} {base g c n : Nat} (h : OwnK k e w base (.slice (some ⟨g, 0, none⟩) n c) n) (j : Nat) {y : Int} (hy : (Lit.int k y).wf = true) : OwnK k e (w.setCell ⟨g, j, none⟩ (.int k y)) base (.slice (some ⟨g, 0, none⟩) n c) n := by
  obtain ⟨zs, h1, h2⟩ := h
  exact ⟨zs.set j y, wf_set h1 hy, own_set h2 j y⟩
theorem OwnK.cell {k : IntKind} {e : TypeId} {w : World} {base n : Nat} {v : Value} (h : OwnK k e w base v n) {j : Nat} (hj : j < n) : ∃ g c z, v = .slice (some ⟨g, 0, none⟩) n c ∧ w.cell? ⟨g, j, none⟩ = some (.int k z) ∧ (Lit.int k z).wf = true ∧ w.frozen? ⟨g, j, none⟩ = false := by
  obtain ⟨zs, h1, h2⟩ := h
  obtain ⟨g, c, rfl, -⟩ := own_form h2 (by omega)
  have hl : zs.length = n := by simpa using h2.1
  refine ⟨g, c, zs[j]?.getD 0, rfl, own_cell h2 hj, ?_, h2.frozenAt j⟩
  rw [List.getElem?_eq_getElem (by omega)]
  exact h1 _ (List.getElem_mem _)
theorem row_ne {v : Value} {base g : Nat} (h : ∀ q, v.ownBlock = some q → base ≤ q) (hg : g < base) : v.ownBlock = none ∨ v.ownBlock ≠ some g := by
  by_cases e : v.ownBlock = some g
  · have := h g e
    omega
  · exact Or.inr e

theorem own_litB (w : World) (base : Nat) (hb : base ≤ w.heap.size) : (w.alloc (.cells #[] 5)).ownsRow base 5 1 (.slice (some ⟨w.heap.size, 0, none⟩) 0 0) 0 (([] : List Int).map (Value.int .u8)) := World.ownsRow_made w #[] 0 hb (by decide) rfl
theorem own_litI (w : World) (base : Nat) (hb : base ≤ w.heap.size) : (w.alloc (.cells #[] 3)).ownsRow base 3 1 (.slice (some ⟨w.heap.size, 0, none⟩) 0 0) 0 (([] : List Int).map (Value.int .i64)) := World.ownsRow_made w #[] 0 hb (by decide) rfl
theorem row_old {v : Value} {top : Nat} (h : ∀ q, v.ownBlock = some q → q < top) : v.ownBlock = none ∨ v.ownBlock ≠ some top := by
  by_cases e : v.ownBlock = some top
  · have := h top e
    omega
  · exact Or.inr e
set_option maxHeartbeats 16000000 in
set_option maxRecDepth 100000 in
theorem lawCopies (A : Option Addr) (n c : Nat) (bs : List Int) (B : Option Addr) (m d : Nat) (sc : List Int) (at_ mo : Nat) (w : World) (hnc : n ≤ c) (hc : c ≤ maxLen) (h : Rd .u8 w A n bs) (hmd : m ≤ maxLen) (hs : Rd .i64 w B m sc)
    (hn : n ≤ 140737488351232) (hm : m * 8 ≤ 140737488351232) (hat : at_ ≤ 255) (hmo : mo ≤ 255) :
    Calls Try.prog 5 #[.slice A n c, .slice B m d, .int .u8 (at_ : Int), .int .u8 (mo : Int)] w fun e w' => e = .returned (.bool true) ∧ Below w.heap.size w w' := by
  have q63 : maxLen = 9223372036854775807 := rfl
  obtain ⟨i0, hi0, hz0, hz1, hz2⟩ := info_parts infoB
  obtain ⟨j0, hj0, hy0, hy1, hy2⟩ := info_parts infoI
  have HA := Lib.hid h
  have HB := Lib.hid hs
  have HBS := Lib.hid h.all
  have HSS := Lib.hid hs.all
  have HBL := Lib.hid h.len
  have HLA := Lib.hid (rd_lt h)
  have HLB := Lib.hid (rd_lt hs)
  have hfn : faultP n (-1) = n := by unfold faultP; rw [if_pos (by omega)]
  have HFN := Lib.hid hfn
  have hni : (n : Int) ≤ 140737488351232 := by omega
  have hmi : (m : Int) ≤ 140737488351232 := by omega
  clear h hs hfn
  go_enter Try.func5, Try.ntmps5
  go_wp2_with (first
    | (at_builtin; refine wpList_append_ints rfl _ _ 23 rfl .i64 w1.heap.size 3 j0 8 Try.underlying23 hj0 hy0 hy1 hy2 _ _ _ rfl (own_litI w1 w1.heap.size (Nat.le_refl _)) _ _ _ sc rfl HS1.out (by omega) (by omega) (le_alloc (Nat.le_refl _)) ?_; intro v2 w2 hown2 hgr2; have HO2 := Lib.hid (row_moreB (m := m) (ys := sc) (by omega) (List.nil_append sc) hown2); have HB2 := Lib.hid ((HB1.out.alloc hsz1 _).grown hgr2 (le_alloc hsz1) (fun q hq => by injection hq with hq; rw [← hq]; exact hsz1)); have HC2 := Lib.hid (row_moreB (m := n) (ys := bs) (by omega) (List.nil_append bs) ((HO1.out.alloc _).kept hgr2 (row_old (fun q hq => (HO1.out.lt q hq).2)))); have hsz12 : w1.heap.size ≤ w2.heap.size := Nat.le_trans (le_alloc (Nat.le_refl _)) hgr2.size; clear hown2 hgr2)
    | (at_builtin; refine wpList_append_ints rfl _ _ 22 rfl .u8 w.heap.size 5 i0 1 Try.underlying22 hi0 hz0 hz1 hz2 _ _ _ rfl (own_litB w w.heap.size (Nat.le_refl _)) _ _ _ bs rfl (HA.out.alloc _) (by omega) (by omega) (le_alloc (Nat.le_refl _)) ?_; intro v1 w1 hown1 hgr1; have hB1 := ((Below.refl w.heap.size w).alloc (Nat.le_refl _) (.cells #[] 5)).grown hgr1 (le_alloc (Nat.le_refl _)) (fun b hb => by injection hb with hb; exact Nat.le_of_eq hb); have hsz1 := hB1.size; have HO1 := Lib.hid hown1; have HS1 := Lib.hid ((HB.out.below hB1).alloc (.cells #[] 3)); have HB1 := Lib.hid hB1; clear hown1 hgr1 hB1))
  have HCQ := Lib.hid (HO1.out.lt)
  have HB1S := Lib.hid hsz1
  obtain ⟨A1, c1, rfl, hc1, hcm1, -, -⟩ := own_slice HC2.out
  obtain ⟨B1, d1, rfl, hd1, hdm1, -, -⟩ := own_slice HO2.out
  have HN := Lib.hid (HFN.out ▸ landNew A1 n c1 bs B1 m d1 sc (-1) w2 hc1 hcm1 (Rd.own HC2.out HBS.out) (Rd.own HO2.out HSS.out) hn hm)
  refine HN.out.mono ?_
  rintro e w3 ⟨gL, rfl, hS3, hgL, hB3⟩
  have hgl := hS3.lt
  obtain ⟨SL, hSL⟩ : ∃ SL, (fun b => w2.heap.size ≤ b ∧ b < w3.heap.size ∧ b ≠ gL) = SL := ⟨_, rfl⟩
  have HSL := Lib.hid (show ∀ b, SL b → w2.heap.size ≤ b ∧ b < w3.heap.size from fun b hb => by rw [← hSL] at hb; exact ⟨hb.1, hb.2.1⟩)
  rw [hSL] at hS3
  have HS3 := Lib.hid hS3
  have HB3 := Lib.hid (HB2.out.trans (hB3.mono HB2.out.size))
  have HC3 := Lib.hid (show OwnK .u8 5 w3 w.heap.size (.slice A1 n c1) n from ⟨bs, HBS.out, below_row HC2.out hB3⟩)
  have HO3 := Lib.hid (show OwnK .i64 3 w3 w1.heap.size (.slice B1 m d1) m from ⟨sc, HSS.out, below_row HO2.out hB3⟩)
  have HOQ := Lib.hid (HO2.out.lt)
  have HCQ2 := Lib.hid (HC2.out.lt)
  clear hS3 hB3 hSL HN HC2 HO2 HO1 HB2 HS1 HB1
  go_wp2_with fail
  refine (HFN.out ▸ refNew A n c bs B m d sc (-1) w3 hnc hc (HA.out.below HB3.out) hmd (HB.out.below HB3.out) (fun b => b < w.heap.size) HLA.out HLB.out (by have := HB3.out.size; omega)).mono ?_
  rintro e w4 ⟨rfl, hS4, hB4⟩
  obtain ⟨gR, hgR⟩ : ∃ gR, w3.heap.size = gR := ⟨_, rfl⟩
  rw [hgR] at hS4 hgl HSL ⊢
  have HLS := Lib.hid (HS3.out.below hB4)
  have HRS := Lib.hid hS4
  have HC4 := Lib.hid (HC3.out.below hB4)
  have HO4 := Lib.hid (HO3.out.below hB4)
  have HB4 := Lib.hid (HB3.out.trans (hB4.mono HB3.out.size))
  have hgw : w.heap.size ≤ gR := by have := HB3.out.size; omega
  have hg24 : w2.heap.size ≤ gR := by omega
  clear hS4 hB4 HS3 HC3 HO3 HB3 hgR
  clear w3
  go_wp2_with fail
  go_loopw [34] (fun iv wr => ∃ i : Nat, i ≤ n ∧ iv = .int .i64 i ∧ OwnK .u8 5 wr w.heap.size (.slice A1 n c1) n ∧ OwnK .i64 3 wr w1.heap.size (.slice B1 m d1) m ∧ LSrc SL wr gL bs sc n 0 ∧ Src4 (fun b => b < w.heap.size) wr gR bs sc n 0 ∧ Below w.heap.size w wr) (fun iv _ => n - (intOf iv).toNat)
  case atStart => exact ⟨0, Nat.zero_le _, rfl, HC4.out, HO4.out, HLS.out, HRS.out, HB4.out⟩
  case round =>
    clear HC4 HO4 HLS HRS HB4
    obtain ⟨i, hi, rfl, hcr, hor, hls, hrs, hBr⟩ := hrel
    by_cases hin : i < n
    · have hin' : (i : Int) < (n : Int) := by omega
      obtain ⟨gc, cc, z, hv, hcell, hzw, hfz⟩ := hcr.cell hin
      injection hv with hA1 _ hc1'
      subst hA1; subst hc1'
      obtain ⟨z0, z1⟩ := wf_u8 hzw
      have hgc := HCQ2.out gc rfl
      have hgc1 := HCQ.out gc rfl
      have hxy := (xor_u8 z 255 ⟨z0, z1⟩ ⟨by omega, by omega⟩).1
      have hgr : wr.grownBy (wr.setCell ⟨gc, i, none⟩ (.int .u8 (bits .xor .u8 z 255))) (some gc) := grown_cell wr ⟨gc, i, none⟩ _
      have HC5 := Lib.hid (hcr.set i (u8_wf hxy))
      have HO5 := Lib.hid (hor.kept hgr (row_ne (base := w1.heap.size) (fun q hq => (HOQ.out q hq).1) hgc1.2))
      have HL5 := Lib.hid (hls.kept hgr (fun e => by injection e with e; omega) (fun b hb e => by injection e with e; have := HSL.out b hb; omega))
      have HR5 := Lib.hid (hrs.kept hgr (fun e => by injection e with e; omega) (fun b hb e => by injection e with e; omega))
      have HB5 := Lib.hid (hBr.trans (below_grown hgr hBr.size hgc.1))
      clear hcr hor hls hrs hBr hgr hxy hzw
      go_wp2_with fail
      go_roundw
      case rel => exact ⟨i + 1, by omega, by go_num, HC5.out, HO5.out, HL5.out, HR5.out, HB5.out⟩
      case measure => simp [intOf]; omega
    have hie : n = i := by omega
    subst hie
    have HO5 := Lib.hid hor
    have HL5 := Lib.hid hls
    have HR5 := Lib.hid hrs
    have HB5 := Lib.hid hBr
    clear hcr hor hls hrs hBr
    obtain ⟨wo, hwo⟩ : ∃ wo, wr = wo := ⟨_, rfl⟩
    subst hwo
    go_wp2_with fail
    go_loopw [46] (fun iv wq => ∃ i : Nat, i ≤ m ∧ iv = .int .i64 i ∧ OwnK .i64 3 wq w1.heap.size (.slice B1 m d1) m ∧ LSrc SL wq gL bs sc n 0 ∧ Src4 (fun b => b < w.heap.size) wq gR bs sc n 0 ∧ Below w.heap.size w wq) (fun iv _ => m - (intOf iv).toNat)
    case atStart => exact ⟨0, Nat.zero_le _, rfl, HO5.out, HL5.out, HR5.out, HB5.out⟩
    case round =>
      clear HO5 HL5 HR5 HB5
      obtain ⟨j, hj, rfl, hor, hls, hrs, hBr⟩ := hrel
      by_cases hjm : j < m
      · have hjm' : (j : Int) < (m : Int) := by omega
        obtain ⟨go, co, z, hv, hcell, hzw, hfz⟩ := hor.cell hjm
        injection hv with hB1 _ hd1'
        subst hB1; subst hd1'
        have hgo := HOQ.out go rfl
        have hgr : wr.grownBy (wr.setCell ⟨go, j, none⟩ (.int .i64 1)) (some go) := grown_cell wr ⟨go, j, none⟩ _
        have hw1w : w.heap.size ≤ w1.heap.size := HB1S.out
        have HO6 := Lib.hid (hor.set j (y := 1) (by decide))
        have HL6 := Lib.hid (hls.kept hgr (fun e => by injection e with e; omega) (fun b hb e => by injection e with e; have := HSL.out b hb; omega))
        have HR6 := Lib.hid (hrs.kept hgr (fun e => by injection e with e; omega) (fun b hb e => by injection e with e; omega))
        have HB6 := Lib.hid (hBr.trans (below_grown hgr hBr.size (by omega)))
        clear hor hls hrs hBr hgr hzw
        go_wp2_with fail
        go_roundw
        case rel => exact ⟨j + 1, by omega, by go_num, HO6.out, HL6.out, HR6.out, HB6.out⟩
        case measure => simp [intOf]; omega
      have hje : m = j := by omega
      subst hje
      have HL6 := Lib.hid hls
      have HR6 := Lib.hid hrs
      have HB6 := Lib.hid hBr
      clear hor hls hrs hBr
      go_wp2_with fail
      clear HCQ HOQ HCQ2 HB1S
      go_loopw [53] (fun iv wq => ∃ k N : Nat, k ≤ 3 ∧ iv = .int .i64 k ∧ N ≤ k ∧ LSrc SL wq gL bs sc n N ∧ Src4 (fun b => b < w.heap.size) wq gR bs sc n N ∧ Below w.heap.size w wq) (fun iv _ => 3 - (intOf iv).toNat)
      case atStart => exact ⟨0, 0, by omega, rfl, Nat.le_refl _, HL6.out, HR6.out, HB6.out⟩
      case round =>
        clear HL6 HR6 HB6
        obtain ⟨k, N, hk, rfl, hN, hls, hrs, hBr⟩ := hrel
        by_cases hk3 : k < 3
        rotate_left
        · have hk3' : k = 3 := by omega
          subst hk3'
          have HBr := Lib.hid hBr
          clear hls hrs hBr
          go_wp2_with fail
          refine (lawAwake wr).mono ?_
          rintro e w7 ⟨rfl, hB7⟩
          go_wp2
          go_ret
          exact ⟨rfl, HBr.out.trans (hB7.mono HBr.out.size)⟩
        have hk3' : (k : Int) < 3 := by omega
        have hglr := hls.lt
        have hgrr := hrs.lt
        have HLR := Lib.hid (landRead SL gL bs sc n N (at_ : Int) (mo : Int) wr hls (by omega) ⟨by omega, by omega⟩ ⟨by omega, by omega⟩ (by rw [HBL.out]; exact hn))
        have HR0 := Lib.hid hrs
        have HB0 := Lib.hid hBr
        have hsw := hBr.size
        clear hls hrs hBr
        obtain ⟨w0, hw0⟩ : ∃ w0, wr = w0 := ⟨_, rfl⟩
        subst hw0
        go_wp2_with fail
        refine HLR.out.mono ?_
        rintro e w4 ⟨v4, rfl, hown4, hls4, hgr4⟩
        obtain ⟨A4, c4, rfl, -⟩ := own_slice hown4
        have HL4 := Lib.hid hls4
        have hrs4 := HR0.out.kept hgr4 (by intro e; injection e with e; omega) (fun b hb e => by injection e with e; omega)
        have HB4 := Lib.hid (HB0.out.trans (below_grown hgr4 HB0.out.size (by omega)))
        have HO4 := Lib.hid hown4
        have HRR := Lib.hid (refRead (fun b => b < w.heap.size) gR bs sc n N (at_ : Int) (mo : Int) w4 hrs4 (by omega) ⟨by omega, by omega⟩ ⟨by omega, by omega⟩)
        clear hown4 hls4 hgr4 hrs4 HLR HR0 HB0
        go_wp2_with fail
        refine HRR.out.mono ?_
        rintro e w5 ⟨A5, c5, rfl, hrd5, -, -, -, hrs5, hgr5⟩
        have hls5 := HL4.out.kept hgr5 (by intro e; injection e with e; omega) (fun b hb e => by injection e with e; have := HSL.out b hb; omega)
        have hb5 := HB4.out.trans (below_grown hgr5 HB4.out.size hgw)
        have hown5 := HO4.out.kept hgr5 (row_ne (base := wr.heap.size) (fun q hq => (HO4.out.lt q hq).1) hgrr)
        have HK5 := Lib.hid (readL_bytes (f := n) (sc := sc) (N := N) (p := (at_ : Int)) (most := (mo : Int)) HBS.out)
        have hN' : readN bs.length n N (at_ : Int) (mo : Int) ≤ N + 1 := by unfold readN; split <;> omega
        obtain ⟨L, hL⟩ : ∃ L, readL bs n sc N (at_ : Int) (mo : Int) = L := ⟨_, rfl⟩
        obtain ⟨E, hE⟩ : ∃ E, readE bs.length n (at_ : Int) (mo : Int) = E := ⟨_, rfl⟩
        obtain ⟨N', hNe⟩ : ∃ N', readN bs.length n N (at_ : Int) (mo : Int) = N' := ⟨_, rfl⟩
        rw [hNe] at hls5 hrs5 hN'
        rw [hL] at hrd5 hown5 HK5 ⊢
        rw [hE]
        obtain ⟨K, hK⟩ : ∃ K, L.length = K := ⟨_, rfl⟩
        have hKn : K ≤ n := by
          rw [← hK, ← hL]
          unfold readL
          split
          · rw [List.length_take, List.length_drop]
            have := HBL.out
            omega
          · exact Nat.zero_le _
        have hKb : (K : Int) ≤ 140737488351232 := by omega
        obtain ⟨s, hs⟩ : ∃ s, strOfNums L = s := ⟨_, rfl⟩
        have q1 : (convert 22 9 (.slice A4 K c4)).run Try.prog w5 = .ok (.string s) w5 := by rw [← hs, ← hK]; exact conv_own hown5 HK5.out
        have q2 : (convert 22 9 (.slice A5 K c5)).run Try.prog w5 = .ok (.string s) w5 := by rw [← hs, ← hK]; exact run_str _ _ _ Try.underlying22 Try.underlying5 Try.underlying9 hrd5
        have HX5 := Lib.hid (show OwnK .u8 5 w5 wr.heap.size (.slice A4 K c4) K from ⟨L, HK5.out, by rw [← hK]; exact hown5⟩)
        have HXQ := Lib.hid (show ∀ q, (Value.slice A4 K c4).ownBlock = some q → wr.heap.size ≤ q from fun q hq => by rw [← hK] at hq; exact (hown5.lt q hq).1)
        have HL5 := Lib.hid hls5
        have HR5 := Lib.hid hrs5
        have HB5 := Lib.hid hb5
        rw [hK]
        clear hls5 hrs5 hb5 hown5 hrd5 hgr5 hL hE hNe hK hs HK5 HO4 HL4 HB4 HRR
        go_wp2_with fail
        clear q1 q2
        go_loopw [85] (fun iv wq => ∃ j : Nat, j ≤ K ∧ iv = .int .i64 j ∧ OwnK .u8 5 wq wr.heap.size (.slice A4 K c4) K ∧ LSrc SL wq gL bs sc n N' ∧ Src4 (fun b => b < w.heap.size) wq gR bs sc n N' ∧ Below w.heap.size w wq) (fun iv _ => K - (intOf iv).toNat)
        case atStart => exact ⟨0, Nat.zero_le _, rfl, HX5.out, HL5.out, HR5.out, HB5.out⟩
        case round =>
          clear HX5 HL5 HR5 HB5
          obtain ⟨j, hj, rfl, hxr, hls, hrs, hBr⟩ := hrel
          by_cases hjK : j < K
          · have hjK' : (j : Int) < (K : Int) := by omega
            obtain ⟨gx, cx, z, hv, hcell, hzw, hfz⟩ := hxr.cell hjK
            injection hv with hA4 _ hc4
            subst hA4; subst hc4
            have hgx := HXQ.out gx rfl
            have hgr : wr.grownBy (wr.setCell ⟨gx, j, none⟩ (.int .u8 0)) (some gx) := grown_cell wr ⟨gx, j, none⟩ _
            have HX6 := Lib.hid (hxr.set j (y := 0) (by decide))
            have HL6 := Lib.hid (hls.kept hgr (fun e => by injection e with e; omega) (fun b hb e => by injection e with e; have := HSL.out b hb; omega))
            have HR6 := Lib.hid (hrs.kept hgr (fun e => by injection e with e; omega) (fun b hb e => by injection e with e; omega))
            have HB6 := Lib.hid (hBr.trans (below_grown hgr hBr.size (by omega)))
            clear hxr hls hrs hBr hgr hzw
            go_wp2_with fail
            go_roundw
            case rel => exact ⟨j + 1, by omega, by go_num, HX6.out, HL6.out, HR6.out, HB6.out⟩
            case measure => simp [intOf]; omega
          have hjK2 : ¬ j < K := hjK
          have HL6 := Lib.hid hls
          have HR6 := Lib.hid hrs
          have HB6 := Lib.hid hBr
          have hjK' : ¬ ((j : Int) < (K : Int)) := by omega
          clear hxr hls hrs hBr
          go_wp2_with fail
          go_roundw
          case rel => exact ⟨k + 1, N', by omega, by go_num, by omega, HL6.out, HR6.out, HB6.out⟩
          case measure => simp [intOf]; omega
end Go.Proofs.Ytidailkpkcgmjaa.Src
