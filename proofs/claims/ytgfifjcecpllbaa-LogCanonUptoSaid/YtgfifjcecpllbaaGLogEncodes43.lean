/-
  The walk of the law LogCanon (stage 10). Written by wip/tools/gencanon10.py. By an AI agent.
-/
import Derived.Test.YtgfifjcecpllbaaGLogEncodes41
import Derived.Test.YtgfifjcecpllbaaGLogEncodes31
namespace Go.Proofs.Ytgfifjcecpllbaa.Log
open Go.RowKit Go.Proofs.Ytgfifjcecpllbaa.Ints Go.Proofs.Ytgfifjcecpllbaa.Mem Go.Proofs.Ytgfifjcecpllbaa.SumMath Go.Proofs.Ytgfifjcecpllbaa.SumWalks Go.Proofs.Ytgfifjcecpllbaa.Trace Go.Proofs.Ytgfifjcecpllbaa.Record

theorem recsD_ne (b : List Int) (props : Int) : ∀ (f p : Nat) (last : Int) (es : List Ev), (recsD b props f p last es).2 ≠ 0 := by
  intro f
  induction f with
  | zero => intro p last es h; exact absurd h (show ¬ (13 : Nat) = 0 by decide)
  | succ f ih =>
    intro p last es
    rw [recsD]
    split
    · rename_i h; exact h
    · split
      · intro h; exact absurd h (show ¬ (8 : Nat) = 0 by decide)
      · exact ih _ _ _
theorem dec_zero {b : List Int} (h : decE b = 0) : (recordsD b).2 = 13 := by
  unfold decE at h
  by_cases h13 : (recordsD b).2 = 13
  · exact h13
  exfalso
  rw [if_neg h13] at h
  unfold recordsD at h
  split at h
  · rename_i h2; exact h2 h
  · exact recsD_ne _ _ _ _ _ _ h
theorem flat_14 (l : List Ev) : 14 * l.length ≤ (l.flatMap recR).length := by
  induction l with
  | nil => simp
  | cons e l ih => rw [List.flatMap_cons, List.length_append, rec_len, List.length_cons]; omega
theorem canon {b : List Int} (hb : ∀ z ∈ b, 0 ≤ z ∧ z ≤ 255) (h : decE b = 0) : encL (decT b) = b ∧ 14 * (decT b).events.length ≤ b.length := by
  have h1 := enc_dec hb (dec_zero h)
  refine ⟨h1, ?_⟩
  have hm := records_may b hb
  have h2 := enc_eq hm
  have h3 := flat_14 (recordsD b).1.events
  rw [h1] at h2
  have h4 := congrArg List.length h2
  rw [List.length_append] at h4
  unfold decT
  omega

set_option maxHeartbeats 16000000 in
set_option maxRecDepth 100000 in
theorem lawCanon (B : Option Addr) (bn bc : Nat) (bs : List Int) (start : Int) (N : Option Addr) (k kc : Nat) (ns : List Int) (p q x : Nat) (R : Option Addr) (rl rc : Nat) (rs : List Int) (NA : Option Addr) (nn nc : Nat) (names : List (List UInt8)) (EA : Option Addr) (ne ec : Nat) (l : List Ev) (w : World)
    (hbc : bn ≤ bc) (hbm : bc ≤ maxLen) (hbn : bn ≤ 1048576) (hB : Rd .u8 w B bn bs) (hs : 0 ≤ start ∧ start ≤ 18446744073709551615) (hN : Rd .u16 w N k ns) (hk : k ≤ maxLen) (hnn : ∀ z ∈ ns, 0 ≤ z) (hp : p ≤ 65535) (hq : q ≤ 65535) (hx : x ≤ 255) (hrl : rl ≤ 1048576) (hR : Rd .u8 w R rl rs)
    (hnl : names.length = nn) (hnc : nn ≤ maxLen) (hNS : Strs w NA names) (hsum : (names.map List.length).sum ≤ 1048576) (hel : l.length = ne) (hec : ne ≤ maxLen) (hE : Evs Any w EA l) :
    Calls Try.prog 8 #[.slice B bn bc, .int .u64 start, .slice N k kc, .int .u16 (p : Int), .int .u16 (q : Int), .int .u8 (x : Int), .slice R rl rc, .slice NA nn nc, .slice EA ne ec] w fun e w' => e = .returned (.bool true) ∧ Below w.heap.size w w' := by
  have q63 : maxLen = 9223372036854775807 := rfl
  obtain ⟨i0, hi, hz0, hz1, hz2⟩ := info_parts info5s
  have HB := Lib.hid hB
  have HR := Lib.hid hR
  have HNN := Lib.hid hN
  have HD := Lib.hid hNS
  have HL := Lib.hid hnl
  have HEV := Lib.hid hE
  have HEL := Lib.hid hel
  have HS := Lib.hid hsum
  clear hNS hnl hE hel hsum hB hR hN
  by_cases h3 : nn > 300
  · have h3' : (nn : Int) > 300 := by omega
    go_enter Try.func8, Try.ntmps8
    go_wp2_with fail
    refine (awakeL w).mono ?_
    rintro e w' ⟨rfl, hB⟩
    go_wp2
    go_ret
    exact ⟨rfl, hB⟩
  have h3' : ¬ ((nn : Int) > 300) := by omega
  by_cases h4 : ne > 300
  · have h4' : (ne : Int) > 300 := by omega
    go_enter Try.func8, Try.ntmps8
    go_wp2_with fail
    refine (awakeL w).mono ?_
    rintro e w' ⟨rfl, hB⟩
    go_wp2
    go_ret
    exact ⟨rfl, hB⟩
  have h4' : ¬ ((ne : Int) > 300) := by omega
  have HM := Lib.hid (fun W (hb : Below w.heap.size w W) => lawMake start N k kc ns W hs (HNN.out.below hb) hk)
  obtain ⟨e1, e2, e3⟩ := enc_small (start := start) hnn
  have e4 := (make_small start ns).1
  obtain ⟨T, hT⟩ : ∃ T, makeM start ns = T := ⟨_, rfl⟩
  rw [hT] at HM e1 e2 e3 e4
  obtain ⟨cb, hcb⟩ : ∃ cb, encL T = cb := ⟨_, rfl⟩
  rw [hcb] at e1 e2 e3
  have HBY := Lib.hid e3
  obtain ⟨cn, hcn⟩ : ∃ cn, cb.length = cn := ⟨_, rfl⟩
  rw [hcn] at e1 e2
  have HCN := Lib.hid hcn
  have HCB := Lib.hid hcb
  clear hT hcb hcn e3
  go_enter Try.func8, Try.ntmps8
  go_wp2_with fail
  go_loopw [38] (fun iv wr => ∃ i : Nat, i ≤ ne ∧ iv = .int .i64 i ∧ Below w.heap.size w wr ∧ Hid (∀ j, j < i → (l.getD j noEv).ids.length ≤ 300)) (fun iv _ => ne - (intOf iv).toNat)
  case atStart => exact ⟨0, Nat.zero_le _, rfl, Below.refl _ _, fun j hj => absurd hj (Nat.not_lt_zero _)⟩
  case round =>
    obtain ⟨i, hi', rfl, hBr, HID⟩ := hrel
    by_cases hin : i < ne
    · obtain ⟨b', off, K, ck, rfl, c0, c1, hokk⟩ := (HEV.out.below hBr).kids (k := i) (by rw [HEL.out]; exact hin)
      have HNX := Lib.hid (fun h => ids_next HID.out (i := i) h)
      obtain ⟨ev, hev⟩ : ∃ ev, l.getD i noEv = ev := ⟨_, rfl⟩
      rw [hev] at c0 c1 hokk HNX
      have hmm := hokk.2.2
      obtain ⟨m3, hm3⟩ : ∃ m3, ev.ids.length = m3 := ⟨_, rfl⟩
      rw [hm3] at c1 hmm HNX
      have hx5 := Blk.new wr #[.int .u64 ev.time, .slice K m3 ck] 39 [.int .u64 ev.time, .slice K m3 ck] rfl
      have x1 := hx5.cell 1 rfl
      have HAL := Lib.hid (hBr.alloc hBr.size (.cells #[.int .u64 ev.time, .slice K m3 ck] 39))
      have hmc : (m3 : Int) ≤ 9223372036854775807 := by omega
      by_cases h5 : m3 > 300
      · have h5' : (m3 : Int) > 300 := by omega
        clear hev hm3 hokk hx5 hmm HNX
        go_wp2_with fail
        refine (awakeL _).mono ?_
        rintro e w' ⟨rfl, hB⟩
        go_wp2
        go_ret
        exact ⟨rfl, HAL.out.trans (hB.mono HAL.out.size)⟩
      have h5' : ¬ ((m3 : Int) > 300) := by omega
      have HN2 := Lib.hid (HNX.out (by omega))
      clear hev hm3 hokk hx5 hmm HNX
      go_wp2_with fail
      go_roundw
      case rel => exact ⟨i + 1, by omega, by go_num, HAL.out, HN2.out⟩
      case measure => simp [intOf]; omega
    obtain rfl : i = ne := by omega
    have HBR := Lib.hid hBr
    have HMM := Lib.hid (HM.out wr hBr)
    clear hBr HM HNN
    go_wp2_with fail
    refine HMM.out.mono ?_
    rintro e w1 ⟨ta, tn, tc, ua, un, uc, rfl, hok, hB1⟩
    have HB1 := Lib.hid (HBR.out.trans (hB1.mono HBR.out.size))
    have FE := landEncode ta tn tc ua un uc T w1 hok (by have := hok.elen; omega)
    rw [HCB.out] at FE
    have HFE := Lib.hid FE
    clear hok hB1 FE HMM
    go_wp2_with fail
    refine HFE.out.mono ?_
    rintro e w2 hmade
    obtain ⟨A, c, rfl, hrd, hnc2, hcm, -, -, hB2⟩ := made_slice hmade (u8_all HBY.out)
    rw [HCN.out] at hrd hnc2 ⊢
    have HB2 := Lib.hid (HB1.out.trans (hB2.mono HB1.out.size))
    have HC2 := Lib.hid hrd
    have FS := lawSpoil A cn c cb p q x R rl rc rs w2 hp hq hx hnc2 (by omega) hrd (by omega) (HR.out.below HB2.out)
    have HFS := Lib.hid FS
    clear hmade hrd hB2 FS HFE
    go_wp2_with fail
    refine HFS.out.mono ?_
    rintro e w3 hmade
    obtain ⟨A1, c1, rfl, hrd1, hc1, hm1, -, -, hB3⟩ := made_slice hmade (cut_wf HBY.out HR.out.all p q hx)
    have hn1 : (cutS cb p q x ++ rs).length ≤ 2000000 := by rw [List.length_append]; have := cut_len cb p q x; have := HR.out.len; have := HCN.out; omega
    obtain ⟨y1, hy1⟩ : ∃ y, cutS cb p q x ++ rs = y := ⟨_, rfl⟩
    rw [hy1] at hrd1 hc1 hn1 ⊢
    obtain ⟨n1, hn1e⟩ : ∃ n, y1.length = n := ⟨_, rfl⟩
    rw [hn1e] at hrd1 hc1 hn1 ⊢
    have HB3 := Lib.hid (HB2.out.trans (hB3.mono HB2.out.size))
    have HR1 := Lib.hid hrd1
    have HC3 := Lib.hid (HC2.out.below hB3)
    clear hmade hrd1 hB3 hy1 hn1e HFS HC2
    go_wp2_with (first
      | (at_builtin; refine wpList_append_ints rfl _ _ 29 rfl .u8 w3.heap.size 5 i0 1 Try.underlying29 hi hz0 hz1 hz2 _ _ _ rfl HO1.out _ _ _ rs rfl HRR.out (by omega) (by omega) hs1 ?_; intro v5 w5 hown5 hgr5; have HO5 := Lib.hid hown5; have HB5 := Lib.hid (HB4.out.grown hgr5 hs1 (fun q hq => (HO1.out.lt q hq).1)); clear hown5 hgr5)
      | (at_builtin; refine wpList_append_ints rfl _ _ 29 rfl .u8 w3.heap.size 5 i0 1 Try.underlying29 hi hz0 hz1 hz2 _ _ _ rfl (own_lit w3 w3.heap.size 5 .u8 [] 0 rfl (by decide) (Nat.le_refl _)) _ _ _ cb rfl (HC3.out.alloc _) (by omega) (by omega) (le_alloc (Nat.le_refl _)) ?_; intro v4 w4 hown4 hgr4; have hB4 := ((Below.refl w3.heap.size w3).alloc (Nat.le_refl _) (.cells #[] 5)).grown hgr4 (le_alloc (Nat.le_refl _)) (fun b hb => by injection hb with hb; exact Nat.le_of_eq hb); have hs1 := hB4.size; have HO1 := Lib.hid hown4; have HRR := Lib.hid (HR.out.below (HB3.out.trans (hB4.mono HB3.out.size))); have HB4 := Lib.hid hB4; clear hown4 hgr4 hB4))
    obtain ⟨A2, c2, rfl, hc2, hm2, -, -⟩ := own_slice HO5.out
    have hall : ∀ z ∈ [] ++ cb ++ rs, (Lit.int .u8 z).wf = true := fun z hz => by
      rcases List.mem_append.1 hz with h1 | h1
      · exact u8_wf (HBY.out z h1)
      · exact HR.out.all z h1
    have hrd2 := Rd.own HO5.out hall
    obtain ⟨y2, hy2⟩ : ∃ y, [] ++ cb ++ rs = y := ⟨_, rfl⟩
    rw [hy2] at hrd2
    obtain ⟨n2, hn2e⟩ : ∃ n, 0 + cn + rl = n := ⟨_, rfl⟩
    rw [hn2e] at hrd2 hc2 ⊢
    have hn2 : n2 ≤ 2000000 := by omega
    have HR1b := Lib.hid (HR1.out.below HB5.out)
    have hB35 := HB3.out.trans (HB5.out.mono HB3.out.size)
    have FS := lawSeal NA nn nc names EA i ec l w5 HL.out (by omega) (HD.out.below hB35) HS.out HEL.out (by omega) (HEV.out.below hB35) HID.out
    have HFS := Lib.hid FS
    have HR2 := Lib.hid hrd2
    have HB35 := Lib.hid hB35
    clear HO5 hall hrd2 hy2 hn2e HR1 hB35 FS HB5 HB4 HO1 HRR hs1
    refine HFS.out.mono ?_
    rintro e w6 ⟨y3, A3, n3, c3, rfl, hrd3, hc3, hm3, hn3, -, hB6⟩
    have HB6 := Lib.hid (HB35.out.trans (hB6.mono HB35.out.size))
    have R0 := Lib.hid (HB.out.below HB6.out)
    have R1 := Lib.hid (HR1b.out.below hB6)
    have R2 := Lib.hid (HR2.out.below hB6)
    have R3 := Lib.hid hrd3
    clear hrd3 hB6 HFS HR1b HR2
    go_wp2_with fail
    clear HBR wr
    go_loopw [68] (fun iv wr => ∃ j : Nat, j ≤ 4 ∧ iv = .int .i64 j ∧ Below w6.heap.size w6 wr) (fun iv _ => 4 - (intOf iv).toNat)
    case atStart => exact ⟨0, by omega, rfl, Below.refl _ _⟩
    case round =>
      obtain ⟨j, hj, rfl, hBr⟩ := hrel
      by_cases hj0 : j = 0
      · subst hj0
        have hix : ∀ W, (Instr.index 50 (.agg #[.slice B bn bc, .slice A1 n1 c1, .slice A2 n2 c2, .slice A3 n3 c3]) (.int .i64 0)).run Try.prog W = .ok (.slice B bn bc) W := fun W => by kernel_rfl
        have hrd := R0.out.below hBr
        have FD := landDecode B bn bc bs wr (by omega) (by omega) (by omega) hrd
        unfold GotDec at FD
        have hcan := canon (b := bs) (all_u8 hrd.all)
        have hyl := hrd.len
        obtain ⟨U, hU⟩ : ∃ U, decT bs = U := ⟨_, rfl⟩
        obtain ⟨er, her⟩ : ∃ er, decE bs = er := ⟨_, rfl⟩
        rw [hU, her] at FD
        rw [hU, her, hyl] at hcan
        obtain ⟨mn, hmn⟩ : ∃ mn, U.names.length = mn := ⟨_, rfl⟩
        obtain ⟨me, hme⟩ : ∃ me, U.events.length = me := ⟨_, rfl⟩
        rw [hmn, hme] at FD
        rw [hme] at hcan
        have HFD := Lib.hid FD
        have HCAN := Lib.hid hcan
        have HRY := Lib.hid hrd
        have HBR2 := Lib.hid hBr
        clear FD hcan hU her hmn hme hrd hyl hBr
        go_wp2_with fail
        clear hix
        refine HFD.out.mono ?_
        rintro e w7 ⟨NB, mc, EB, fc, rfl, hok7, hB7⟩
        have hal := (Below.refl _ w7).alloc (Nat.le_refl _) (.cells #[.slice NB mn mc, .slice EB me fc] 25)
        have hu8 := Blk.new w7 #[.slice NB mn mc, .slice EB me fc] 25 [.slice NB mn mc, .slice EB me fc] rfl
        have hok8 := hok7.below hal
        have hry8 := (HRY.out.below hB7).below hal
        have hb67 := HBR2.out.trans (hB7.mono HBR2.out.size)
        have hb8 := hb67.trans (hal.mono hb67.size)
        obtain ⟨w8, hw8⟩ : ∃ w8, w7.alloc (.cells #[.slice NB mn mc, .slice EB me fc] 25) = w8 := ⟨_, rfl⟩
        obtain ⟨g7, hg7⟩ : ∃ g7, w7.heap.size = g7 := ⟨_, rfl⟩
        rw [hw8] at hu8 hok8 hry8 hb8
        rw [hg7] at hu8
        obtain ⟨V, hV⟩ : ∃ V, V = w8.drew := ⟨_, rfl⟩
        have HUV := Lib.hid (show Blk V g7 [.slice NB mn mc, .slice EB me fc] by rw [hV]; exact hu8.drew)
        have HOV := Lib.hid (show TrOk Any V NB mn mc EB me fc U by rw [hV]; exact TrOk.below hok8 (Below.refl _ _).drew)
        have HYV := Lib.hid (show Rd .u8 V B bn bs by rw [hV]; exact hry8.below (Below.refl _ _).drew)
        have HBV := Lib.hid (show Below w6.heap.size w6 V by rw [hV]; exact hb8.drew)
        clear hal hu8 hok7 hok8 hry8 hb67 hb8 hB7 HFD HRY HBR2
        by_cases he0 : er = 0
        · subst he0
          obtain ⟨hen, h14⟩ := HCAN.out rfl
          have FE := landEncode NB mn mc EB me fc U V HOV.out (by omega)
          rw [hen] at FE
          obtain ⟨s, hsy⟩ : ∃ s, strOfNums bs = s := ⟨_, rfl⟩
          have HFE := Lib.hid (hsy ▸ FE.mono fun e w' hm => (show GotLog V (strOfNums bs) e w' from by
            obtain ⟨A', c', he', hr', -, -, -, -, hb'⟩ := made_slice hm HYV.out.all
            exact ⟨A', _, c', he', fun W hW => bytes_str (hr'.below hW), hb'⟩))
          have HCV := Lib.hid (show ∀ W, Below V.heap.size V W → (convert 29 9 (.slice B bn bc)).run Try.prog W = .ok (.string s) W from fun W hW => hsy ▸ bytes_str (HYV.out.below hW))
          clear FE hen hsy HCAN HOV HYV
          go_wp2_with fail
          clear hw8 hg7
          refine wp_region_held_drew (S := fun W => (W.cell? ⟨g7, 0, none⟩ = some (.slice NB mn mc) ∧ W.cell? ⟨g7, 1, none⟩ = some (.slice EB me fc)) ∧ (convert 29 9 (.slice B bn bc)).run Try.prog W = .ok (.string s) W) (by kernel_rfl) (by rw [← hV]; exact ⟨⟨HUV.out.cell 0 rfl, HUV.out.cell 1 rfl⟩, HCV.out V (Below.refl _ _)⟩) (fun hHeld => ?_)
          rw [← hV] at hHeld ⊢
          clear hV
          refine wpAnyH_take (i := 0) (oi := ?tko1) (v := ?tkv1) ?tkh1 (by kernel_rfl) (by kernel_rfl) (by kernel_rfl) ?tkq1 ?tky1 hHeld ?tkr1
          case tkh1 => (simp only [List.getElem?_toArray, List.getElem?_cons_zero]; rfl)
          case tkq1 => exact fun _ _ _ h => h
          case tky1 => exact Or.inl ⟨by rfl, by intro wSw hSw; (try dsimp only at hSw); go_simp; try with_reducible rfl⟩
          try simp only [Act.put, List.setIfInBounds_toArray, List.set_cons_zero, List.set_cons_succ]
          refine wpAnyH_take (i := 1) (oi := ?tko2) (v := ?tkv2) ?tkh2 (by kernel_rfl) (by kernel_rfl) (by kernel_rfl) ?tkq2 ?tky2 hHeld ?tkr2
          case tkh2 => (simp only [List.getElem?_toArray, List.getElem?_cons_succ, List.getElem?_cons_zero]; rfl)
          case tkq2 => exact fun _ _ _ h => h
          case tky2 => exact Or.inl ⟨by rfl, by intro wSw hSw; (try dsimp only at hSw); go_simp; try with_reducible rfl⟩
          try simp only [Act.put, List.setIfInBounds_toArray, List.set_cons_zero, List.set_cons_succ]
          refine wpAnyH_take (i := 2) (oi := ?tko3) (v := ?tkv3) ?tkh3 (by kernel_rfl) (by kernel_rfl) (by kernel_rfl) ?tkq3 ?tky3 hHeld ?tkr3
          case tkh3 => (simp only [List.getElem?_toArray, List.getElem?_cons_succ, List.getElem?_cons_zero]; rfl)
          case tkq3 => exact fun _ _ _ h => h
          case tky3 => exact Or.inl ⟨by rfl, by intro wSw hSw; (try dsimp only at hSw); go_simp; try with_reducible rfl⟩
          try simp only [Act.put, List.setIfInBounds_toArray, List.set_cons_zero, List.set_cons_succ]
          refine wpAnyH_take (i := 3) (oi := ?tko4) (v := ?tkv4) ?tkh4 (by kernel_rfl) (by kernel_rfl) (by kernel_rfl) ?tkq4 ?tky4 hHeld ?tkr4
          case tkh4 => (simp only [List.getElem?_toArray, List.getElem?_cons_succ, List.getElem?_cons_zero]; rfl)
          case tkq4 => exact fun _ _ _ h => h
          case tky4 => exact Or.inl ⟨by rfl, by intro wSw hSw; (try dsimp only at hSw); go_simp; try with_reducible rfl⟩
          try simp only [Act.put, List.setIfInBounds_toArray, List.set_cons_zero, List.set_cons_succ]
          refine wpAnyH_take (i := 6) (oi := ?tko5) (v := ?tkv5) ?tkh5 (by kernel_rfl) (by kernel_rfl) (by kernel_rfl) ?tkq5 ?tky5 hHeld ?tkr5
          case tkh5 => (simp only [List.getElem?_toArray, List.getElem?_cons_succ, List.getElem?_cons_zero]; rfl)
          case tkq5 => exact fun _ _ _ h => h
          case tky5 => exact Or.inl ⟨by rfl, by intro wSw hSw; (try dsimp only at hSw); go_simp; try with_reducible rfl⟩
          try simp only [Act.put, List.setIfInBounds_toArray, List.set_cons_zero, List.set_cons_succ]
          refine wpAnyH_take (i := 7) (oi := ?tko6) (v := ?tkv6) ?tkh6 (by kernel_rfl) (by kernel_rfl) (by kernel_rfl) ?tkq6 ?tky6 hHeld ?tkr6
          case tkh6 => (simp only [List.getElem?_toArray, List.getElem?_cons_succ, List.getElem?_cons_zero]; rfl)
          case tkq6 => exact fun _ _ _ h => h
          case tky6 => exact Or.inl ⟨by rfl, by intro wSw hSw; (try dsimp only at hSw); go_simp; try with_reducible rfl⟩
          try simp only [Act.put, List.setIfInBounds_toArray, List.set_cons_zero, List.set_cons_succ]
          refine wpAnyH_ready (rs := [4]) (by kernel_rfl) (by simp) ?_
          refine AllReadyH.cons (o := ?tko7) ?tkh7 (fun Kt7 hKt7 => ?_) AllReadyH.nil
          case tkh7 => (simp only [List.getElem?_toArray, List.getElem?_cons_succ, List.getElem?_cons_zero]; rfl)
          go_simp
          (go_at_call 12; refine HFE.out.mono ?_; rintro e v1 ⟨A9, n9, c9, rfl, hc9, hd1⟩; have k1 := HUV.out.later hd1)
          refine hKt7.out _ _ ?_ (fun hHt7 => ?_)
          · (exact ⟨⟨k1.cell 0 rfl, k1.cell 1 rfl⟩, HCV.out _ hd1⟩)
          clear hKt7 Kt7 hHeld
          have hHeld := hHt7
          clear hHt7
          try simp only [Act.put, List.setIfInBounds_toArray, List.set_cons_zero, List.set_cons_succ]
          refine Held.more (fun W => ((W.cell? ⟨g7, 0, none⟩ = some (.slice NB mn mc) ∧ W.cell? ⟨g7, 1, none⟩ = some (.slice EB me fc)) ∧ (convert 29 9 (.slice B bn bc)).run Try.prog W = .ok (.string s) W) ∧ (convert 29 9 (.slice A9 n9 c9)).run Try.prog W = .ok (.string s) W) (fun W h => h.1) ⟨hHeld, hc9 _ (Below.refl _ _)⟩ (fun hHeld => ?_)
          refine wpAnyH_take (i := 5) (oi := ?tko8) (v := ?tkv8) ?tkh8 (by kernel_rfl) (by kernel_rfl) (by kernel_rfl) ?tkq8 ?tky8 hHeld ?tkr8
          case tkh8 => (simp only [List.getElem?_toArray, List.getElem?_cons_succ, List.getElem?_cons_zero]; rfl)
          case tkq8 => exact fun _ _ _ h => h
          case tky8 => exact Or.inl ⟨by rfl, by intro wSw hSw; (try dsimp only at hSw); go_simp; try with_reducible rfl⟩
          try simp only [Act.put, List.setIfInBounds_toArray, List.set_cons_zero, List.set_cons_succ]
          refine wpAnyH_take (i := 8) (oi := ?tko9) (v := ?tkv9) ?tkh9 (by kernel_rfl) (by kernel_rfl) (by kernel_rfl) ?tkq9 ?tky9 hHeld ?tkr9
          case tkh9 => (simp only [List.getElem?_toArray, List.getElem?_cons_succ, List.getElem?_cons_zero]; rfl)
          case tkq9 => exact fun _ _ _ h => h
          case tky9 => exact Or.inl ⟨by rfl, by intro wSw hSw; (try dsimp only at hSw); go_simp; try with_reducible rfl⟩
          try simp only [Act.put, List.setIfInBounds_toArray, List.set_cons_zero, List.set_cons_succ]
          refine wpAnyH_take (i := 9) (oi := ?tko10) (v := ?tkv10) ?tkh10 (by kernel_rfl) (by kernel_rfl) (by kernel_rfl) ?tkq10 ?tky10 hHeld ?tkr10
          case tkh10 => (simp only [List.getElem?_toArray, List.getElem?_cons_succ, List.getElem?_cons_zero]; rfl)
          case tkq10 => exact fun _ _ _ h => h
          case tky10 => exact Or.inl ⟨by rfl, by intro wSw hSw; (try dsimp only at hSw); go_simp; try with_reducible rfl⟩
          try simp only [Act.put, List.setIfInBounds_toArray, List.set_cons_zero, List.set_cons_succ]
          refine wpAnyH_take (i := 10) (oi := ?tko11) (v := ?tkv11) ?tkh11 (by kernel_rfl) (by kernel_rfl) (by kernel_rfl) ?tkq11 ?tky11 hHeld ?tkr11
          case tkh11 => (simp only [List.getElem?_toArray, List.getElem?_cons_succ, List.getElem?_cons_zero]; rfl)
          case tkq11 => exact fun _ _ _ h => h
          case tky11 => exact Or.inl ⟨by rfl, by intro wSw hSw; (try dsimp only at hSw); go_simp; try with_reducible rfl⟩
          try simp only [Act.put, List.setIfInBounds_toArray, List.set_cons_zero, List.set_cons_succ]
          refine wpAnyH_take (i := 11) (oi := ?tko12) (v := ?tkv12) ?tkh12 (by kernel_rfl) (by kernel_rfl) (by kernel_rfl) ?tkq12 ?tky12 hHeld ?tkr12
          case tkh12 => (simp only [List.getElem?_toArray, List.getElem?_cons_succ, List.getElem?_cons_zero]; rfl)
          case tkq12 => exact fun _ _ _ h => h
          case tky12 => exact Or.inl ⟨by rfl, by intro wSw hSw; (try dsimp only at hSw); go_simp; try with_reducible rfl⟩
          try simp only [Act.put, List.setIfInBounds_toArray, List.set_cons_zero, List.set_cons_succ]
          refine wpAnyH_take (i := 12) (oi := ?tko13) (v := ?tkv13) ?tkh13 (by kernel_rfl) (by kernel_rfl) (by kernel_rfl) ?tkq13 ?tky13 hHeld ?tkr13
          case tkh13 => (simp only [List.getElem?_toArray, List.getElem?_cons_succ, List.getElem?_cons_zero]; rfl)
          case tkq13 => exact fun _ _ _ h => h
          case tky13 => exact Or.inl ⟨by rfl, by intro wSw hSw; (try dsimp only at hSw); go_simp; try with_reducible rfl⟩
          try simp only [Act.put, List.setIfInBounds_toArray, List.set_cons_zero, List.set_cons_succ]
          refine wpAnyH_take (i := 13) (oi := ?tko14) (v := ?tkv14) ?tkh14 (by kernel_rfl) (by kernel_rfl) (by kernel_rfl) ?tkq14 ?tky14 hHeld ?tkr14
          case tkh14 => (simp only [List.getElem?_toArray, List.getElem?_cons_succ, List.getElem?_cons_zero]; rfl)
          case tkq14 => exact fun _ _ _ h => h
          case tky14 => exact Or.inl ⟨by rfl, by intro wSw hSw; (try dsimp only at hSw); go_simp; try with_reducible rfl⟩
          try simp only [Act.put, List.setIfInBounds_toArray, List.set_cons_zero, List.set_cons_succ]
          refine wpAnyH_take (i := 14) (oi := ?tko15) (v := ?tkv15) ?tkh15 (by kernel_rfl) (by kernel_rfl) (by kernel_rfl) ?tkq15 ?tky15 hHeld ?tkr15
          case tkh15 => (simp only [List.getElem?_toArray, List.getElem?_cons_succ, List.getElem?_cons_zero]; rfl)
          case tkq15 => exact fun _ _ _ h => h
          case tky15 => exact Or.inl ⟨by rfl, by intro wSw hSw; (try dsimp only at hSw); go_simp; try with_reducible rfl⟩
          try simp only [Act.put, List.setIfInBounds_toArray, List.set_cons_zero, List.set_cons_succ]
          refine wpAnyH_take (i := 15) (oi := ?tko16) (v := ?tkv16) ?tkh16 (by kernel_rfl) (by kernel_rfl) (by kernel_rfl) ?tkq16 ?tky16 hHeld ?tkr16
          case tkh16 => (simp only [List.getElem?_toArray, List.getElem?_cons_succ, List.getElem?_cons_zero]; rfl)
          case tkq16 => exact fun _ _ _ h => h
          case tky16 => exact Or.inl ⟨by rfl, by intro wSw hSw; (try dsimp only at hSw); go_simp; try with_reducible rfl⟩
          try simp only [Act.put, List.setIfInBounds_toArray, List.set_cons_zero, List.set_cons_succ]
          refine wpAnyH_take (i := 16) (oi := ?tko17) (v := ?tkv17) ?tkh17 (by kernel_rfl) (by kernel_rfl) (by kernel_rfl) ?tkq17 ?tky17 hHeld ?tkr17
          case tkh17 => (simp only [List.getElem?_toArray, List.getElem?_cons_succ, List.getElem?_cons_zero]; rfl)
          case tkq17 => exact fun _ _ _ h => h
          case tky17 => exact Or.inl ⟨by rfl, by intro wSw hSw; (try dsimp only at hSw); go_simp; try with_reducible rfl⟩
          try simp only [Act.put, List.setIfInBounds_toArray, List.set_cons_zero, List.set_cons_succ]
          refine wpAnyH_done (by kernel_rfl) ?_ _
          have HBE := Lib.hid (HBV.out.trans (hd1.mono HBV.out.size))
          clear hHeld hd1 hc9 k1 HFE HCV HBV HUV
          go_wp2_with fail
          go_roundw
          case rel => exact ⟨0 + 1, by omega, by go_num, HBE.out⟩
          case measure => simp [intOf]
        have he0' : ((er : Int) == 0) = false := by simp; omega
        have u1 := HUV.out.cell 1 rfl
        have u0 := HUV.out.cell 0 rfl
        clear HCAN HOV HYV
        go_wp2_with fail
        clear hw8 hg7
        refine wp_region_held_drew (S := fun W => W.cell? ⟨g7, 0, none⟩ = some (.slice NB mn mc) ∧ W.cell? ⟨g7, 1, none⟩ = some (.slice EB me fc)) (by kernel_rfl) (by rw [← hV]; exact ⟨u0, u1⟩) (fun hHeld => ?_)
        rw [← hV] at hHeld ⊢
        clear hV
        refine wpAnyH_take (i := 0) (oi := ?tko18) (v := ?tkv18) ?tkh18 (by kernel_rfl) (by kernel_rfl) (by kernel_rfl) ?tkq18 ?tky18 hHeld ?tkr18
        case tkh18 => (simp only [List.getElem?_toArray, List.getElem?_cons_zero]; rfl)
        case tkq18 => exact fun _ _ _ h => h
        case tky18 => exact Or.inl ⟨by rfl, by intro wSw hSw; (try dsimp only at hSw); go_simp; try with_reducible rfl⟩
        try simp only [Act.put, List.setIfInBounds_toArray, List.set_cons_zero, List.set_cons_succ]
        refine wpAnyH_take (i := 1) (oi := ?tko19) (v := ?tkv19) ?tkh19 (by kernel_rfl) (by kernel_rfl) (by kernel_rfl) ?tkq19 ?tky19 hHeld ?tkr19
        case tkh19 => (simp only [List.getElem?_toArray, List.getElem?_cons_succ, List.getElem?_cons_zero]; rfl)
        case tkq19 => exact fun _ _ _ h => h
        case tky19 => exact Or.inl ⟨by rfl, by intro wSw hSw; (try dsimp only at hSw); go_simp; try with_reducible rfl⟩
        try simp only [Act.put, List.setIfInBounds_toArray, List.set_cons_zero, List.set_cons_succ]
        refine wpAnyH_take (i := 2) (oi := ?tko20) (v := ?tkv20) ?tkh20 (by kernel_rfl) (by kernel_rfl) (by kernel_rfl) ?tkq20 ?tky20 hHeld ?tkr20
        case tkh20 => (simp only [List.getElem?_toArray, List.getElem?_cons_succ, List.getElem?_cons_zero]; rfl)
        case tkq20 => exact fun _ _ _ h => h
        case tky20 => exact Or.inl ⟨by rfl, by intro wSw hSw; (try dsimp only at hSw); go_simp; try with_reducible rfl⟩
        try simp only [Act.put, List.setIfInBounds_toArray, List.set_cons_zero, List.set_cons_succ]
        refine Skips.skips (by kernel_rfl) (fun _ _ _ _ _ h => h) hHeld [3, 4, 5, 6, 7, 8, 9, 10, 11, 12, 13, 14, 15] _ 1 _ _ (by kernel_rfl) ?tkk21 ?tkr21
        case tkk21 => kernel_rfl
        simp only [Skips.skipAct, Skips.skipListed, List.getElem?_toArray, List.getElem?_cons_succ, List.getElem?_cons_zero, Act.put, List.setIfInBounds_toArray, List.set_cons_zero, List.set_cons_succ]
        refine wpAnyH_take (i := 16) (oi := ?tko22) (v := ?tkv22) ?tkh22 (by kernel_rfl) (by kernel_rfl) (by kernel_rfl) ?tkq22 ?tky22 hHeld ?tkr22
        case tkh22 => (simp only [List.getElem?_toArray, List.getElem?_cons_succ, List.getElem?_cons_zero]; rfl)
        case tkq22 => exact fun _ _ _ h => h
        case tky22 => exact Or.inl ⟨by rfl, by intro wSw hSw; (try dsimp only at hSw); go_simp; try with_reducible rfl⟩
        try simp only [Act.put, List.setIfInBounds_toArray, List.set_cons_zero, List.set_cons_succ]
        refine wpAnyH_done (by kernel_rfl) ?_ _
        clear hHeld
        by_cases he5 : er = 5
        · subst he5
          go_wp2_with fail
          go_roundw
          case rel => exact ⟨0 + 1, by omega, by go_num, HBV.out⟩
          case measure => simp [intOf]
        · have he5' : ((er : Int) == 5) = false := by simp; omega
          go_wp2_with fail
          go_roundw
          case rel => exact ⟨0 + 1, by omega, by go_num, HBV.out⟩
          case measure => simp [intOf]
      by_cases hj1 : j = 1
      · subst hj1
        have hix : ∀ W, (Instr.index 50 (.agg #[.slice B bn bc, .slice A1 n1 c1, .slice A2 n2 c2, .slice A3 n3 c3]) (.int .i64 1)).run Try.prog W = .ok (.slice A1 n1 c1) W := fun W => by kernel_rfl
        have hrd := R1.out.below hBr
        have FD := landDecode A1 n1 c1 y1 wr (by omega) (by omega) (by omega) hrd
        unfold GotDec at FD
        have hcan := canon (b := y1) (all_u8 hrd.all)
        have hyl := hrd.len
        obtain ⟨U, hU⟩ : ∃ U, decT y1 = U := ⟨_, rfl⟩
        obtain ⟨er, her⟩ : ∃ er, decE y1 = er := ⟨_, rfl⟩
        rw [hU, her] at FD
        rw [hU, her, hyl] at hcan
        obtain ⟨mn, hmn⟩ : ∃ mn, U.names.length = mn := ⟨_, rfl⟩
        obtain ⟨me, hme⟩ : ∃ me, U.events.length = me := ⟨_, rfl⟩
        rw [hmn, hme] at FD
        rw [hme] at hcan
        have HFD := Lib.hid FD
        have HCAN := Lib.hid hcan
        have HRY := Lib.hid hrd
        have HBR2 := Lib.hid hBr
        clear FD hcan hU her hmn hme hrd hyl hBr
        go_wp2_with fail
        clear hix
        refine HFD.out.mono ?_
        rintro e w7 ⟨NB, mc, EB, fc, rfl, hok7, hB7⟩
        have hal := (Below.refl _ w7).alloc (Nat.le_refl _) (.cells #[.slice NB mn mc, .slice EB me fc] 25)
        have hu8 := Blk.new w7 #[.slice NB mn mc, .slice EB me fc] 25 [.slice NB mn mc, .slice EB me fc] rfl
        have hok8 := hok7.below hal
        have hry8 := (HRY.out.below hB7).below hal
        have hb67 := HBR2.out.trans (hB7.mono HBR2.out.size)
        have hb8 := hb67.trans (hal.mono hb67.size)
        obtain ⟨w8, hw8⟩ : ∃ w8, w7.alloc (.cells #[.slice NB mn mc, .slice EB me fc] 25) = w8 := ⟨_, rfl⟩
        obtain ⟨g7, hg7⟩ : ∃ g7, w7.heap.size = g7 := ⟨_, rfl⟩
        rw [hw8] at hu8 hok8 hry8 hb8
        rw [hg7] at hu8
        obtain ⟨V, hV⟩ : ∃ V, V = w8.drew := ⟨_, rfl⟩
        have HUV := Lib.hid (show Blk V g7 [.slice NB mn mc, .slice EB me fc] by rw [hV]; exact hu8.drew)
        have HOV := Lib.hid (show TrOk Any V NB mn mc EB me fc U by rw [hV]; exact TrOk.below hok8 (Below.refl _ _).drew)
        have HYV := Lib.hid (show Rd .u8 V A1 n1 y1 by rw [hV]; exact hry8.below (Below.refl _ _).drew)
        have HBV := Lib.hid (show Below w6.heap.size w6 V by rw [hV]; exact hb8.drew)
        clear hal hu8 hok7 hok8 hry8 hb67 hb8 hB7 HFD HRY HBR2
        by_cases he0 : er = 0
        · subst he0
          obtain ⟨hen, h14⟩ := HCAN.out rfl
          have FE := landEncode NB mn mc EB me fc U V HOV.out (by omega)
          rw [hen] at FE
          obtain ⟨s, hsy⟩ : ∃ s, strOfNums y1 = s := ⟨_, rfl⟩
          have HFE := Lib.hid (hsy ▸ FE.mono fun e w' hm => (show GotLog V (strOfNums y1) e w' from by
            obtain ⟨A', c', he', hr', -, -, -, -, hb'⟩ := made_slice hm HYV.out.all
            exact ⟨A', _, c', he', fun W hW => bytes_str (hr'.below hW), hb'⟩))
          have HCV := Lib.hid (show ∀ W, Below V.heap.size V W → (convert 29 9 (.slice A1 n1 c1)).run Try.prog W = .ok (.string s) W from fun W hW => hsy ▸ bytes_str (HYV.out.below hW))
          clear FE hen hsy HCAN HOV HYV
          go_wp2_with fail
          clear hw8 hg7
          refine wp_region_held_drew (S := fun W => (W.cell? ⟨g7, 0, none⟩ = some (.slice NB mn mc) ∧ W.cell? ⟨g7, 1, none⟩ = some (.slice EB me fc)) ∧ (convert 29 9 (.slice A1 n1 c1)).run Try.prog W = .ok (.string s) W) (by kernel_rfl) (by rw [← hV]; exact ⟨⟨HUV.out.cell 0 rfl, HUV.out.cell 1 rfl⟩, HCV.out V (Below.refl _ _)⟩) (fun hHeld => ?_)
          rw [← hV] at hHeld ⊢
          clear hV
          refine wpAnyH_take (i := 0) (oi := ?tko23) (v := ?tkv23) ?tkh23 (by kernel_rfl) (by kernel_rfl) (by kernel_rfl) ?tkq23 ?tky23 hHeld ?tkr23
          case tkh23 => (simp only [List.getElem?_toArray, List.getElem?_cons_zero]; rfl)
          case tkq23 => exact fun _ _ _ h => h
          case tky23 => exact Or.inl ⟨by rfl, by intro wSw hSw; (try dsimp only at hSw); go_simp; try with_reducible rfl⟩
          try simp only [Act.put, List.setIfInBounds_toArray, List.set_cons_zero, List.set_cons_succ]
          refine wpAnyH_take (i := 1) (oi := ?tko24) (v := ?tkv24) ?tkh24 (by kernel_rfl) (by kernel_rfl) (by kernel_rfl) ?tkq24 ?tky24 hHeld ?tkr24
          case tkh24 => (simp only [List.getElem?_toArray, List.getElem?_cons_succ, List.getElem?_cons_zero]; rfl)
          case tkq24 => exact fun _ _ _ h => h
          case tky24 => exact Or.inl ⟨by rfl, by intro wSw hSw; (try dsimp only at hSw); go_simp; try with_reducible rfl⟩
          try simp only [Act.put, List.setIfInBounds_toArray, List.set_cons_zero, List.set_cons_succ]
          refine wpAnyH_take (i := 2) (oi := ?tko25) (v := ?tkv25) ?tkh25 (by kernel_rfl) (by kernel_rfl) (by kernel_rfl) ?tkq25 ?tky25 hHeld ?tkr25
          case tkh25 => (simp only [List.getElem?_toArray, List.getElem?_cons_succ, List.getElem?_cons_zero]; rfl)
          case tkq25 => exact fun _ _ _ h => h
          case tky25 => exact Or.inl ⟨by rfl, by intro wSw hSw; (try dsimp only at hSw); go_simp; try with_reducible rfl⟩
          try simp only [Act.put, List.setIfInBounds_toArray, List.set_cons_zero, List.set_cons_succ]
          refine wpAnyH_take (i := 3) (oi := ?tko26) (v := ?tkv26) ?tkh26 (by kernel_rfl) (by kernel_rfl) (by kernel_rfl) ?tkq26 ?tky26 hHeld ?tkr26
          case tkh26 => (simp only [List.getElem?_toArray, List.getElem?_cons_succ, List.getElem?_cons_zero]; rfl)
          case tkq26 => exact fun _ _ _ h => h
          case tky26 => exact Or.inl ⟨by rfl, by intro wSw hSw; (try dsimp only at hSw); go_simp; try with_reducible rfl⟩
          try simp only [Act.put, List.setIfInBounds_toArray, List.set_cons_zero, List.set_cons_succ]
          refine wpAnyH_take (i := 6) (oi := ?tko27) (v := ?tkv27) ?tkh27 (by kernel_rfl) (by kernel_rfl) (by kernel_rfl) ?tkq27 ?tky27 hHeld ?tkr27
          case tkh27 => (simp only [List.getElem?_toArray, List.getElem?_cons_succ, List.getElem?_cons_zero]; rfl)
          case tkq27 => exact fun _ _ _ h => h
          case tky27 => exact Or.inl ⟨by rfl, by intro wSw hSw; (try dsimp only at hSw); go_simp; try with_reducible rfl⟩
          try simp only [Act.put, List.setIfInBounds_toArray, List.set_cons_zero, List.set_cons_succ]
          refine wpAnyH_take (i := 7) (oi := ?tko28) (v := ?tkv28) ?tkh28 (by kernel_rfl) (by kernel_rfl) (by kernel_rfl) ?tkq28 ?tky28 hHeld ?tkr28
          case tkh28 => (simp only [List.getElem?_toArray, List.getElem?_cons_succ, List.getElem?_cons_zero]; rfl)
          case tkq28 => exact fun _ _ _ h => h
          case tky28 => exact Or.inl ⟨by rfl, by intro wSw hSw; (try dsimp only at hSw); go_simp; try with_reducible rfl⟩
          try simp only [Act.put, List.setIfInBounds_toArray, List.set_cons_zero, List.set_cons_succ]
          refine wpAnyH_ready (rs := [4]) (by kernel_rfl) (by simp) ?_
          refine AllReadyH.cons (o := ?tko29) ?tkh29 (fun Kt29 hKt29 => ?_) AllReadyH.nil
          case tkh29 => (simp only [List.getElem?_toArray, List.getElem?_cons_succ, List.getElem?_cons_zero]; rfl)
          go_simp
          (go_at_call 12; refine HFE.out.mono ?_; rintro e v1 ⟨A9, n9, c9, rfl, hc9, hd1⟩; have k1 := HUV.out.later hd1)
          refine hKt29.out _ _ ?_ (fun hHt29 => ?_)
          · (exact ⟨⟨k1.cell 0 rfl, k1.cell 1 rfl⟩, HCV.out _ hd1⟩)
          clear hKt29 Kt29 hHeld
          have hHeld := hHt29
          clear hHt29
          try simp only [Act.put, List.setIfInBounds_toArray, List.set_cons_zero, List.set_cons_succ]
          refine Held.more (fun W => ((W.cell? ⟨g7, 0, none⟩ = some (.slice NB mn mc) ∧ W.cell? ⟨g7, 1, none⟩ = some (.slice EB me fc)) ∧ (convert 29 9 (.slice A1 n1 c1)).run Try.prog W = .ok (.string s) W) ∧ (convert 29 9 (.slice A9 n9 c9)).run Try.prog W = .ok (.string s) W) (fun W h => h.1) ⟨hHeld, hc9 _ (Below.refl _ _)⟩ (fun hHeld => ?_)
          refine wpAnyH_take (i := 5) (oi := ?tko30) (v := ?tkv30) ?tkh30 (by kernel_rfl) (by kernel_rfl) (by kernel_rfl) ?tkq30 ?tky30 hHeld ?tkr30
          case tkh30 => (simp only [List.getElem?_toArray, List.getElem?_cons_succ, List.getElem?_cons_zero]; rfl)
          case tkq30 => exact fun _ _ _ h => h
          case tky30 => exact Or.inl ⟨by rfl, by intro wSw hSw; (try dsimp only at hSw); go_simp; try with_reducible rfl⟩
          try simp only [Act.put, List.setIfInBounds_toArray, List.set_cons_zero, List.set_cons_succ]
          refine wpAnyH_take (i := 8) (oi := ?tko31) (v := ?tkv31) ?tkh31 (by kernel_rfl) (by kernel_rfl) (by kernel_rfl) ?tkq31 ?tky31 hHeld ?tkr31
          case tkh31 => (simp only [List.getElem?_toArray, List.getElem?_cons_succ, List.getElem?_cons_zero]; rfl)
          case tkq31 => exact fun _ _ _ h => h
          case tky31 => exact Or.inl ⟨by rfl, by intro wSw hSw; (try dsimp only at hSw); go_simp; try with_reducible rfl⟩
          try simp only [Act.put, List.setIfInBounds_toArray, List.set_cons_zero, List.set_cons_succ]
          refine wpAnyH_take (i := 9) (oi := ?tko32) (v := ?tkv32) ?tkh32 (by kernel_rfl) (by kernel_rfl) (by kernel_rfl) ?tkq32 ?tky32 hHeld ?tkr32
          case tkh32 => (simp only [List.getElem?_toArray, List.getElem?_cons_succ, List.getElem?_cons_zero]; rfl)
          case tkq32 => exact fun _ _ _ h => h
          case tky32 => exact Or.inl ⟨by rfl, by intro wSw hSw; (try dsimp only at hSw); go_simp; try with_reducible rfl⟩
          try simp only [Act.put, List.setIfInBounds_toArray, List.set_cons_zero, List.set_cons_succ]
          refine wpAnyH_take (i := 10) (oi := ?tko33) (v := ?tkv33) ?tkh33 (by kernel_rfl) (by kernel_rfl) (by kernel_rfl) ?tkq33 ?tky33 hHeld ?tkr33
          case tkh33 => (simp only [List.getElem?_toArray, List.getElem?_cons_succ, List.getElem?_cons_zero]; rfl)
          case tkq33 => exact fun _ _ _ h => h
          case tky33 => exact Or.inl ⟨by rfl, by intro wSw hSw; (try dsimp only at hSw); go_simp; try with_reducible rfl⟩
          try simp only [Act.put, List.setIfInBounds_toArray, List.set_cons_zero, List.set_cons_succ]
          refine wpAnyH_take (i := 11) (oi := ?tko34) (v := ?tkv34) ?tkh34 (by kernel_rfl) (by kernel_rfl) (by kernel_rfl) ?tkq34 ?tky34 hHeld ?tkr34
          case tkh34 => (simp only [List.getElem?_toArray, List.getElem?_cons_succ, List.getElem?_cons_zero]; rfl)
          case tkq34 => exact fun _ _ _ h => h
          case tky34 => exact Or.inl ⟨by rfl, by intro wSw hSw; (try dsimp only at hSw); go_simp; try with_reducible rfl⟩
          try simp only [Act.put, List.setIfInBounds_toArray, List.set_cons_zero, List.set_cons_succ]
          refine wpAnyH_take (i := 12) (oi := ?tko35) (v := ?tkv35) ?tkh35 (by kernel_rfl) (by kernel_rfl) (by kernel_rfl) ?tkq35 ?tky35 hHeld ?tkr35
          case tkh35 => (simp only [List.getElem?_toArray, List.getElem?_cons_succ, List.getElem?_cons_zero]; rfl)
          case tkq35 => exact fun _ _ _ h => h
          case tky35 => exact Or.inl ⟨by rfl, by intro wSw hSw; (try dsimp only at hSw); go_simp; try with_reducible rfl⟩
          try simp only [Act.put, List.setIfInBounds_toArray, List.set_cons_zero, List.set_cons_succ]
          refine wpAnyH_take (i := 13) (oi := ?tko36) (v := ?tkv36) ?tkh36 (by kernel_rfl) (by kernel_rfl) (by kernel_rfl) ?tkq36 ?tky36 hHeld ?tkr36
          case tkh36 => (simp only [List.getElem?_toArray, List.getElem?_cons_succ, List.getElem?_cons_zero]; rfl)
          case tkq36 => exact fun _ _ _ h => h
          case tky36 => exact Or.inl ⟨by rfl, by intro wSw hSw; (try dsimp only at hSw); go_simp; try with_reducible rfl⟩
          try simp only [Act.put, List.setIfInBounds_toArray, List.set_cons_zero, List.set_cons_succ]
          refine wpAnyH_take (i := 14) (oi := ?tko37) (v := ?tkv37) ?tkh37 (by kernel_rfl) (by kernel_rfl) (by kernel_rfl) ?tkq37 ?tky37 hHeld ?tkr37
          case tkh37 => (simp only [List.getElem?_toArray, List.getElem?_cons_succ, List.getElem?_cons_zero]; rfl)
          case tkq37 => exact fun _ _ _ h => h
          case tky37 => exact Or.inl ⟨by rfl, by intro wSw hSw; (try dsimp only at hSw); go_simp; try with_reducible rfl⟩
          try simp only [Act.put, List.setIfInBounds_toArray, List.set_cons_zero, List.set_cons_succ]
          refine wpAnyH_take (i := 15) (oi := ?tko38) (v := ?tkv38) ?tkh38 (by kernel_rfl) (by kernel_rfl) (by kernel_rfl) ?tkq38 ?tky38 hHeld ?tkr38
          case tkh38 => (simp only [List.getElem?_toArray, List.getElem?_cons_succ, List.getElem?_cons_zero]; rfl)
          case tkq38 => exact fun _ _ _ h => h
          case tky38 => exact Or.inl ⟨by rfl, by intro wSw hSw; (try dsimp only at hSw); go_simp; try with_reducible rfl⟩
          try simp only [Act.put, List.setIfInBounds_toArray, List.set_cons_zero, List.set_cons_succ]
          refine wpAnyH_take (i := 16) (oi := ?tko39) (v := ?tkv39) ?tkh39 (by kernel_rfl) (by kernel_rfl) (by kernel_rfl) ?tkq39 ?tky39 hHeld ?tkr39
          case tkh39 => (simp only [List.getElem?_toArray, List.getElem?_cons_succ, List.getElem?_cons_zero]; rfl)
          case tkq39 => exact fun _ _ _ h => h
          case tky39 => exact Or.inl ⟨by rfl, by intro wSw hSw; (try dsimp only at hSw); go_simp; try with_reducible rfl⟩
          try simp only [Act.put, List.setIfInBounds_toArray, List.set_cons_zero, List.set_cons_succ]
          refine wpAnyH_done (by kernel_rfl) ?_ _
          have HBE := Lib.hid (HBV.out.trans (hd1.mono HBV.out.size))
          clear hHeld hd1 hc9 k1 HFE HCV HBV HUV
          go_wp2_with fail
          go_roundw
          case rel => exact ⟨1 + 1, by omega, by go_num, HBE.out⟩
          case measure => simp [intOf]
        have he0' : ((er : Int) == 0) = false := by simp; omega
        have u1 := HUV.out.cell 1 rfl
        have u0 := HUV.out.cell 0 rfl
        clear HCAN HOV HYV
        go_wp2_with fail
        clear hw8 hg7
        refine wp_region_held_drew (S := fun W => W.cell? ⟨g7, 0, none⟩ = some (.slice NB mn mc) ∧ W.cell? ⟨g7, 1, none⟩ = some (.slice EB me fc)) (by kernel_rfl) (by rw [← hV]; exact ⟨u0, u1⟩) (fun hHeld => ?_)
        rw [← hV] at hHeld ⊢
        clear hV
        refine wpAnyH_take (i := 0) (oi := ?tko40) (v := ?tkv40) ?tkh40 (by kernel_rfl) (by kernel_rfl) (by kernel_rfl) ?tkq40 ?tky40 hHeld ?tkr40
        case tkh40 => (simp only [List.getElem?_toArray, List.getElem?_cons_zero]; rfl)
        case tkq40 => exact fun _ _ _ h => h
        case tky40 => exact Or.inl ⟨by rfl, by intro wSw hSw; (try dsimp only at hSw); go_simp; try with_reducible rfl⟩
        try simp only [Act.put, List.setIfInBounds_toArray, List.set_cons_zero, List.set_cons_succ]
        refine wpAnyH_take (i := 1) (oi := ?tko41) (v := ?tkv41) ?tkh41 (by kernel_rfl) (by kernel_rfl) (by kernel_rfl) ?tkq41 ?tky41 hHeld ?tkr41
        case tkh41 => (simp only [List.getElem?_toArray, List.getElem?_cons_succ, List.getElem?_cons_zero]; rfl)
        case tkq41 => exact fun _ _ _ h => h
        case tky41 => exact Or.inl ⟨by rfl, by intro wSw hSw; (try dsimp only at hSw); go_simp; try with_reducible rfl⟩
        try simp only [Act.put, List.setIfInBounds_toArray, List.set_cons_zero, List.set_cons_succ]
        refine wpAnyH_take (i := 2) (oi := ?tko42) (v := ?tkv42) ?tkh42 (by kernel_rfl) (by kernel_rfl) (by kernel_rfl) ?tkq42 ?tky42 hHeld ?tkr42
        case tkh42 => (simp only [List.getElem?_toArray, List.getElem?_cons_succ, List.getElem?_cons_zero]; rfl)
        case tkq42 => exact fun _ _ _ h => h
        case tky42 => exact Or.inl ⟨by rfl, by intro wSw hSw; (try dsimp only at hSw); go_simp; try with_reducible rfl⟩
        try simp only [Act.put, List.setIfInBounds_toArray, List.set_cons_zero, List.set_cons_succ]
        refine Skips.skips (by kernel_rfl) (fun _ _ _ _ _ h => h) hHeld [3, 4, 5, 6, 7, 8, 9, 10, 11, 12, 13, 14, 15] _ 1 _ _ (by kernel_rfl) ?tkk43 ?tkr43
        case tkk43 => kernel_rfl
        simp only [Skips.skipAct, Skips.skipListed, List.getElem?_toArray, List.getElem?_cons_succ, List.getElem?_cons_zero, Act.put, List.setIfInBounds_toArray, List.set_cons_zero, List.set_cons_succ]
        refine wpAnyH_take (i := 16) (oi := ?tko44) (v := ?tkv44) ?tkh44 (by kernel_rfl) (by kernel_rfl) (by kernel_rfl) ?tkq44 ?tky44 hHeld ?tkr44
        case tkh44 => (simp only [List.getElem?_toArray, List.getElem?_cons_succ, List.getElem?_cons_zero]; rfl)
        case tkq44 => exact fun _ _ _ h => h
        case tky44 => exact Or.inl ⟨by rfl, by intro wSw hSw; (try dsimp only at hSw); go_simp; try with_reducible rfl⟩
        try simp only [Act.put, List.setIfInBounds_toArray, List.set_cons_zero, List.set_cons_succ]
        refine wpAnyH_done (by kernel_rfl) ?_ _
        clear hHeld
        by_cases he5 : er = 5
        · subst he5
          go_wp2_with fail
          go_roundw
          case rel => exact ⟨1 + 1, by omega, by go_num, HBV.out⟩
          case measure => simp [intOf]
        · have he5' : ((er : Int) == 5) = false := by simp; omega
          go_wp2_with fail
          go_roundw
          case rel => exact ⟨1 + 1, by omega, by go_num, HBV.out⟩
          case measure => simp [intOf]
      by_cases hj2 : j = 2
      · subst hj2
        have hix : ∀ W, (Instr.index 50 (.agg #[.slice B bn bc, .slice A1 n1 c1, .slice A2 n2 c2, .slice A3 n3 c3]) (.int .i64 2)).run Try.prog W = .ok (.slice A2 n2 c2) W := fun W => by kernel_rfl
        have hrd := R2.out.below hBr
        have FD := landDecode A2 n2 c2 y2 wr (by omega) (by omega) (by omega) hrd
        unfold GotDec at FD
        have hcan := canon (b := y2) (all_u8 hrd.all)
        have hyl := hrd.len
        obtain ⟨U, hU⟩ : ∃ U, decT y2 = U := ⟨_, rfl⟩
        obtain ⟨er, her⟩ : ∃ er, decE y2 = er := ⟨_, rfl⟩
        rw [hU, her] at FD
        rw [hU, her, hyl] at hcan
        obtain ⟨mn, hmn⟩ : ∃ mn, U.names.length = mn := ⟨_, rfl⟩
        obtain ⟨me, hme⟩ : ∃ me, U.events.length = me := ⟨_, rfl⟩
        rw [hmn, hme] at FD
        rw [hme] at hcan
        have HFD := Lib.hid FD
        have HCAN := Lib.hid hcan
        have HRY := Lib.hid hrd
        have HBR2 := Lib.hid hBr
        clear FD hcan hU her hmn hme hrd hyl hBr
        go_wp2_with fail
        clear hix
        refine HFD.out.mono ?_
        rintro e w7 ⟨NB, mc, EB, fc, rfl, hok7, hB7⟩
        have hal := (Below.refl _ w7).alloc (Nat.le_refl _) (.cells #[.slice NB mn mc, .slice EB me fc] 25)
        have hu8 := Blk.new w7 #[.slice NB mn mc, .slice EB me fc] 25 [.slice NB mn mc, .slice EB me fc] rfl
        have hok8 := hok7.below hal
        have hry8 := (HRY.out.below hB7).below hal
        have hb67 := HBR2.out.trans (hB7.mono HBR2.out.size)
        have hb8 := hb67.trans (hal.mono hb67.size)
        obtain ⟨w8, hw8⟩ : ∃ w8, w7.alloc (.cells #[.slice NB mn mc, .slice EB me fc] 25) = w8 := ⟨_, rfl⟩
        obtain ⟨g7, hg7⟩ : ∃ g7, w7.heap.size = g7 := ⟨_, rfl⟩
        rw [hw8] at hu8 hok8 hry8 hb8
        rw [hg7] at hu8
        obtain ⟨V, hV⟩ : ∃ V, V = w8.drew := ⟨_, rfl⟩
        have HUV := Lib.hid (show Blk V g7 [.slice NB mn mc, .slice EB me fc] by rw [hV]; exact hu8.drew)
        have HOV := Lib.hid (show TrOk Any V NB mn mc EB me fc U by rw [hV]; exact TrOk.below hok8 (Below.refl _ _).drew)
        have HYV := Lib.hid (show Rd .u8 V A2 n2 y2 by rw [hV]; exact hry8.below (Below.refl _ _).drew)
        have HBV := Lib.hid (show Below w6.heap.size w6 V by rw [hV]; exact hb8.drew)
        clear hal hu8 hok7 hok8 hry8 hb67 hb8 hB7 HFD HRY HBR2
        by_cases he0 : er = 0
        · subst he0
          obtain ⟨hen, h14⟩ := HCAN.out rfl
          have FE := landEncode NB mn mc EB me fc U V HOV.out (by omega)
          rw [hen] at FE
          obtain ⟨s, hsy⟩ : ∃ s, strOfNums y2 = s := ⟨_, rfl⟩
          have HFE := Lib.hid (hsy ▸ FE.mono fun e w' hm => (show GotLog V (strOfNums y2) e w' from by
            obtain ⟨A', c', he', hr', -, -, -, -, hb'⟩ := made_slice hm HYV.out.all
            exact ⟨A', _, c', he', fun W hW => bytes_str (hr'.below hW), hb'⟩))
          have HCV := Lib.hid (show ∀ W, Below V.heap.size V W → (convert 29 9 (.slice A2 n2 c2)).run Try.prog W = .ok (.string s) W from fun W hW => hsy ▸ bytes_str (HYV.out.below hW))
          clear FE hen hsy HCAN HOV HYV
          go_wp2_with fail
          clear hw8 hg7
          refine wp_region_held_drew (S := fun W => (W.cell? ⟨g7, 0, none⟩ = some (.slice NB mn mc) ∧ W.cell? ⟨g7, 1, none⟩ = some (.slice EB me fc)) ∧ (convert 29 9 (.slice A2 n2 c2)).run Try.prog W = .ok (.string s) W) (by kernel_rfl) (by rw [← hV]; exact ⟨⟨HUV.out.cell 0 rfl, HUV.out.cell 1 rfl⟩, HCV.out V (Below.refl _ _)⟩) (fun hHeld => ?_)
          rw [← hV] at hHeld ⊢
          clear hV
          refine wpAnyH_take (i := 0) (oi := ?tko45) (v := ?tkv45) ?tkh45 (by kernel_rfl) (by kernel_rfl) (by kernel_rfl) ?tkq45 ?tky45 hHeld ?tkr45
          case tkh45 => (simp only [List.getElem?_toArray, List.getElem?_cons_zero]; rfl)
          case tkq45 => exact fun _ _ _ h => h
          case tky45 => exact Or.inl ⟨by rfl, by intro wSw hSw; (try dsimp only at hSw); go_simp; try with_reducible rfl⟩
          try simp only [Act.put, List.setIfInBounds_toArray, List.set_cons_zero, List.set_cons_succ]
          refine wpAnyH_take (i := 1) (oi := ?tko46) (v := ?tkv46) ?tkh46 (by kernel_rfl) (by kernel_rfl) (by kernel_rfl) ?tkq46 ?tky46 hHeld ?tkr46
          case tkh46 => (simp only [List.getElem?_toArray, List.getElem?_cons_succ, List.getElem?_cons_zero]; rfl)
          case tkq46 => exact fun _ _ _ h => h
          case tky46 => exact Or.inl ⟨by rfl, by intro wSw hSw; (try dsimp only at hSw); go_simp; try with_reducible rfl⟩
          try simp only [Act.put, List.setIfInBounds_toArray, List.set_cons_zero, List.set_cons_succ]
          refine wpAnyH_take (i := 2) (oi := ?tko47) (v := ?tkv47) ?tkh47 (by kernel_rfl) (by kernel_rfl) (by kernel_rfl) ?tkq47 ?tky47 hHeld ?tkr47
          case tkh47 => (simp only [List.getElem?_toArray, List.getElem?_cons_succ, List.getElem?_cons_zero]; rfl)
          case tkq47 => exact fun _ _ _ h => h
          case tky47 => exact Or.inl ⟨by rfl, by intro wSw hSw; (try dsimp only at hSw); go_simp; try with_reducible rfl⟩
          try simp only [Act.put, List.setIfInBounds_toArray, List.set_cons_zero, List.set_cons_succ]
          refine wpAnyH_take (i := 3) (oi := ?tko48) (v := ?tkv48) ?tkh48 (by kernel_rfl) (by kernel_rfl) (by kernel_rfl) ?tkq48 ?tky48 hHeld ?tkr48
          case tkh48 => (simp only [List.getElem?_toArray, List.getElem?_cons_succ, List.getElem?_cons_zero]; rfl)
          case tkq48 => exact fun _ _ _ h => h
          case tky48 => exact Or.inl ⟨by rfl, by intro wSw hSw; (try dsimp only at hSw); go_simp; try with_reducible rfl⟩
          try simp only [Act.put, List.setIfInBounds_toArray, List.set_cons_zero, List.set_cons_succ]
          refine wpAnyH_take (i := 6) (oi := ?tko49) (v := ?tkv49) ?tkh49 (by kernel_rfl) (by kernel_rfl) (by kernel_rfl) ?tkq49 ?tky49 hHeld ?tkr49
          case tkh49 => (simp only [List.getElem?_toArray, List.getElem?_cons_succ, List.getElem?_cons_zero]; rfl)
          case tkq49 => exact fun _ _ _ h => h
          case tky49 => exact Or.inl ⟨by rfl, by intro wSw hSw; (try dsimp only at hSw); go_simp; try with_reducible rfl⟩
          try simp only [Act.put, List.setIfInBounds_toArray, List.set_cons_zero, List.set_cons_succ]
          refine wpAnyH_take (i := 7) (oi := ?tko50) (v := ?tkv50) ?tkh50 (by kernel_rfl) (by kernel_rfl) (by kernel_rfl) ?tkq50 ?tky50 hHeld ?tkr50
          case tkh50 => (simp only [List.getElem?_toArray, List.getElem?_cons_succ, List.getElem?_cons_zero]; rfl)
          case tkq50 => exact fun _ _ _ h => h
          case tky50 => exact Or.inl ⟨by rfl, by intro wSw hSw; (try dsimp only at hSw); go_simp; try with_reducible rfl⟩
          try simp only [Act.put, List.setIfInBounds_toArray, List.set_cons_zero, List.set_cons_succ]
          refine wpAnyH_ready (rs := [4]) (by kernel_rfl) (by simp) ?_
          refine AllReadyH.cons (o := ?tko51) ?tkh51 (fun Kt51 hKt51 => ?_) AllReadyH.nil
          case tkh51 => (simp only [List.getElem?_toArray, List.getElem?_cons_succ, List.getElem?_cons_zero]; rfl)
          go_simp
          (go_at_call 12; refine HFE.out.mono ?_; rintro e v1 ⟨A9, n9, c9, rfl, hc9, hd1⟩; have k1 := HUV.out.later hd1)
          refine hKt51.out _ _ ?_ (fun hHt51 => ?_)
          · (exact ⟨⟨k1.cell 0 rfl, k1.cell 1 rfl⟩, HCV.out _ hd1⟩)
          clear hKt51 Kt51 hHeld
          have hHeld := hHt51
          clear hHt51
          try simp only [Act.put, List.setIfInBounds_toArray, List.set_cons_zero, List.set_cons_succ]
          refine Held.more (fun W => ((W.cell? ⟨g7, 0, none⟩ = some (.slice NB mn mc) ∧ W.cell? ⟨g7, 1, none⟩ = some (.slice EB me fc)) ∧ (convert 29 9 (.slice A2 n2 c2)).run Try.prog W = .ok (.string s) W) ∧ (convert 29 9 (.slice A9 n9 c9)).run Try.prog W = .ok (.string s) W) (fun W h => h.1) ⟨hHeld, hc9 _ (Below.refl _ _)⟩ (fun hHeld => ?_)
          refine wpAnyH_take (i := 5) (oi := ?tko52) (v := ?tkv52) ?tkh52 (by kernel_rfl) (by kernel_rfl) (by kernel_rfl) ?tkq52 ?tky52 hHeld ?tkr52
          case tkh52 => (simp only [List.getElem?_toArray, List.getElem?_cons_succ, List.getElem?_cons_zero]; rfl)
          case tkq52 => exact fun _ _ _ h => h
          case tky52 => exact Or.inl ⟨by rfl, by intro wSw hSw; (try dsimp only at hSw); go_simp; try with_reducible rfl⟩
          try simp only [Act.put, List.setIfInBounds_toArray, List.set_cons_zero, List.set_cons_succ]
          refine wpAnyH_take (i := 8) (oi := ?tko53) (v := ?tkv53) ?tkh53 (by kernel_rfl) (by kernel_rfl) (by kernel_rfl) ?tkq53 ?tky53 hHeld ?tkr53
          case tkh53 => (simp only [List.getElem?_toArray, List.getElem?_cons_succ, List.getElem?_cons_zero]; rfl)
          case tkq53 => exact fun _ _ _ h => h
          case tky53 => exact Or.inl ⟨by rfl, by intro wSw hSw; (try dsimp only at hSw); go_simp; try with_reducible rfl⟩
          try simp only [Act.put, List.setIfInBounds_toArray, List.set_cons_zero, List.set_cons_succ]
          refine wpAnyH_take (i := 9) (oi := ?tko54) (v := ?tkv54) ?tkh54 (by kernel_rfl) (by kernel_rfl) (by kernel_rfl) ?tkq54 ?tky54 hHeld ?tkr54
          case tkh54 => (simp only [List.getElem?_toArray, List.getElem?_cons_succ, List.getElem?_cons_zero]; rfl)
          case tkq54 => exact fun _ _ _ h => h
          case tky54 => exact Or.inl ⟨by rfl, by intro wSw hSw; (try dsimp only at hSw); go_simp; try with_reducible rfl⟩
          try simp only [Act.put, List.setIfInBounds_toArray, List.set_cons_zero, List.set_cons_succ]
          refine wpAnyH_take (i := 10) (oi := ?tko55) (v := ?tkv55) ?tkh55 (by kernel_rfl) (by kernel_rfl) (by kernel_rfl) ?tkq55 ?tky55 hHeld ?tkr55
          case tkh55 => (simp only [List.getElem?_toArray, List.getElem?_cons_succ, List.getElem?_cons_zero]; rfl)
          case tkq55 => exact fun _ _ _ h => h
          case tky55 => exact Or.inl ⟨by rfl, by intro wSw hSw; (try dsimp only at hSw); go_simp; try with_reducible rfl⟩
          try simp only [Act.put, List.setIfInBounds_toArray, List.set_cons_zero, List.set_cons_succ]
          refine wpAnyH_take (i := 11) (oi := ?tko56) (v := ?tkv56) ?tkh56 (by kernel_rfl) (by kernel_rfl) (by kernel_rfl) ?tkq56 ?tky56 hHeld ?tkr56
          case tkh56 => (simp only [List.getElem?_toArray, List.getElem?_cons_succ, List.getElem?_cons_zero]; rfl)
          case tkq56 => exact fun _ _ _ h => h
          case tky56 => exact Or.inl ⟨by rfl, by intro wSw hSw; (try dsimp only at hSw); go_simp; try with_reducible rfl⟩
          try simp only [Act.put, List.setIfInBounds_toArray, List.set_cons_zero, List.set_cons_succ]
          refine wpAnyH_take (i := 12) (oi := ?tko57) (v := ?tkv57) ?tkh57 (by kernel_rfl) (by kernel_rfl) (by kernel_rfl) ?tkq57 ?tky57 hHeld ?tkr57
          case tkh57 => (simp only [List.getElem?_toArray, List.getElem?_cons_succ, List.getElem?_cons_zero]; rfl)
          case tkq57 => exact fun _ _ _ h => h
          case tky57 => exact Or.inl ⟨by rfl, by intro wSw hSw; (try dsimp only at hSw); go_simp; try with_reducible rfl⟩
          try simp only [Act.put, List.setIfInBounds_toArray, List.set_cons_zero, List.set_cons_succ]
          refine wpAnyH_take (i := 13) (oi := ?tko58) (v := ?tkv58) ?tkh58 (by kernel_rfl) (by kernel_rfl) (by kernel_rfl) ?tkq58 ?tky58 hHeld ?tkr58
          case tkh58 => (simp only [List.getElem?_toArray, List.getElem?_cons_succ, List.getElem?_cons_zero]; rfl)
          case tkq58 => exact fun _ _ _ h => h
          case tky58 => exact Or.inl ⟨by rfl, by intro wSw hSw; (try dsimp only at hSw); go_simp; try with_reducible rfl⟩
          try simp only [Act.put, List.setIfInBounds_toArray, List.set_cons_zero, List.set_cons_succ]
          refine wpAnyH_take (i := 14) (oi := ?tko59) (v := ?tkv59) ?tkh59 (by kernel_rfl) (by kernel_rfl) (by kernel_rfl) ?tkq59 ?tky59 hHeld ?tkr59
          case tkh59 => (simp only [List.getElem?_toArray, List.getElem?_cons_succ, List.getElem?_cons_zero]; rfl)
          case tkq59 => exact fun _ _ _ h => h
          case tky59 => exact Or.inl ⟨by rfl, by intro wSw hSw; (try dsimp only at hSw); go_simp; try with_reducible rfl⟩
          try simp only [Act.put, List.setIfInBounds_toArray, List.set_cons_zero, List.set_cons_succ]
          refine wpAnyH_take (i := 15) (oi := ?tko60) (v := ?tkv60) ?tkh60 (by kernel_rfl) (by kernel_rfl) (by kernel_rfl) ?tkq60 ?tky60 hHeld ?tkr60
          case tkh60 => (simp only [List.getElem?_toArray, List.getElem?_cons_succ, List.getElem?_cons_zero]; rfl)
          case tkq60 => exact fun _ _ _ h => h
          case tky60 => exact Or.inl ⟨by rfl, by intro wSw hSw; (try dsimp only at hSw); go_simp; try with_reducible rfl⟩
          try simp only [Act.put, List.setIfInBounds_toArray, List.set_cons_zero, List.set_cons_succ]
          refine wpAnyH_take (i := 16) (oi := ?tko61) (v := ?tkv61) ?tkh61 (by kernel_rfl) (by kernel_rfl) (by kernel_rfl) ?tkq61 ?tky61 hHeld ?tkr61
          case tkh61 => (simp only [List.getElem?_toArray, List.getElem?_cons_succ, List.getElem?_cons_zero]; rfl)
          case tkq61 => exact fun _ _ _ h => h
          case tky61 => exact Or.inl ⟨by rfl, by intro wSw hSw; (try dsimp only at hSw); go_simp; try with_reducible rfl⟩
          try simp only [Act.put, List.setIfInBounds_toArray, List.set_cons_zero, List.set_cons_succ]
          refine wpAnyH_done (by kernel_rfl) ?_ _
          have HBE := Lib.hid (HBV.out.trans (hd1.mono HBV.out.size))
          clear hHeld hd1 hc9 k1 HFE HCV HBV HUV
          go_wp2_with fail
          go_roundw
          case rel => exact ⟨2 + 1, by omega, by go_num, HBE.out⟩
          case measure => simp [intOf]
        have he0' : ((er : Int) == 0) = false := by simp; omega
        have u1 := HUV.out.cell 1 rfl
        have u0 := HUV.out.cell 0 rfl
        clear HCAN HOV HYV
        go_wp2_with fail
        clear hw8 hg7
        refine wp_region_held_drew (S := fun W => W.cell? ⟨g7, 0, none⟩ = some (.slice NB mn mc) ∧ W.cell? ⟨g7, 1, none⟩ = some (.slice EB me fc)) (by kernel_rfl) (by rw [← hV]; exact ⟨u0, u1⟩) (fun hHeld => ?_)
        rw [← hV] at hHeld ⊢
        clear hV
        refine wpAnyH_take (i := 0) (oi := ?tko62) (v := ?tkv62) ?tkh62 (by kernel_rfl) (by kernel_rfl) (by kernel_rfl) ?tkq62 ?tky62 hHeld ?tkr62
        case tkh62 => (simp only [List.getElem?_toArray, List.getElem?_cons_zero]; rfl)
        case tkq62 => exact fun _ _ _ h => h
        case tky62 => exact Or.inl ⟨by rfl, by intro wSw hSw; (try dsimp only at hSw); go_simp; try with_reducible rfl⟩
        try simp only [Act.put, List.setIfInBounds_toArray, List.set_cons_zero, List.set_cons_succ]
        refine wpAnyH_take (i := 1) (oi := ?tko63) (v := ?tkv63) ?tkh63 (by kernel_rfl) (by kernel_rfl) (by kernel_rfl) ?tkq63 ?tky63 hHeld ?tkr63
        case tkh63 => (simp only [List.getElem?_toArray, List.getElem?_cons_succ, List.getElem?_cons_zero]; rfl)
        case tkq63 => exact fun _ _ _ h => h
        case tky63 => exact Or.inl ⟨by rfl, by intro wSw hSw; (try dsimp only at hSw); go_simp; try with_reducible rfl⟩
        try simp only [Act.put, List.setIfInBounds_toArray, List.set_cons_zero, List.set_cons_succ]
        refine wpAnyH_take (i := 2) (oi := ?tko64) (v := ?tkv64) ?tkh64 (by kernel_rfl) (by kernel_rfl) (by kernel_rfl) ?tkq64 ?tky64 hHeld ?tkr64
        case tkh64 => (simp only [List.getElem?_toArray, List.getElem?_cons_succ, List.getElem?_cons_zero]; rfl)
        case tkq64 => exact fun _ _ _ h => h
        case tky64 => exact Or.inl ⟨by rfl, by intro wSw hSw; (try dsimp only at hSw); go_simp; try with_reducible rfl⟩
        try simp only [Act.put, List.setIfInBounds_toArray, List.set_cons_zero, List.set_cons_succ]
        refine Skips.skips (by kernel_rfl) (fun _ _ _ _ _ h => h) hHeld [3, 4, 5, 6, 7, 8, 9, 10, 11, 12, 13, 14, 15] _ 1 _ _ (by kernel_rfl) ?tkk65 ?tkr65
        case tkk65 => kernel_rfl
        simp only [Skips.skipAct, Skips.skipListed, List.getElem?_toArray, List.getElem?_cons_succ, List.getElem?_cons_zero, Act.put, List.setIfInBounds_toArray, List.set_cons_zero, List.set_cons_succ]
        refine wpAnyH_take (i := 16) (oi := ?tko66) (v := ?tkv66) ?tkh66 (by kernel_rfl) (by kernel_rfl) (by kernel_rfl) ?tkq66 ?tky66 hHeld ?tkr66
        case tkh66 => (simp only [List.getElem?_toArray, List.getElem?_cons_succ, List.getElem?_cons_zero]; rfl)
        case tkq66 => exact fun _ _ _ h => h
        case tky66 => exact Or.inl ⟨by rfl, by intro wSw hSw; (try dsimp only at hSw); go_simp; try with_reducible rfl⟩
        try simp only [Act.put, List.setIfInBounds_toArray, List.set_cons_zero, List.set_cons_succ]
        refine wpAnyH_done (by kernel_rfl) ?_ _
        clear hHeld
        by_cases he5 : er = 5
        · subst he5
          go_wp2_with fail
          go_roundw
          case rel => exact ⟨2 + 1, by omega, by go_num, HBV.out⟩
          case measure => simp [intOf]
        · have he5' : ((er : Int) == 5) = false := by simp; omega
          go_wp2_with fail
          go_roundw
          case rel => exact ⟨2 + 1, by omega, by go_num, HBV.out⟩
          case measure => simp [intOf]
      by_cases hj3 : j = 3
      · subst hj3
        have hix : ∀ W, (Instr.index 50 (.agg #[.slice B bn bc, .slice A1 n1 c1, .slice A2 n2 c2, .slice A3 n3 c3]) (.int .i64 3)).run Try.prog W = .ok (.slice A3 n3 c3) W := fun W => by kernel_rfl
        have hrd := R3.out.below hBr
        have FD := landDecode A3 n3 c3 y3 wr (by omega) (by omega) (by omega) hrd
        unfold GotDec at FD
        have hcan := canon (b := y3) (all_u8 hrd.all)
        have hyl := hrd.len
        obtain ⟨U, hU⟩ : ∃ U, decT y3 = U := ⟨_, rfl⟩
        obtain ⟨er, her⟩ : ∃ er, decE y3 = er := ⟨_, rfl⟩
        rw [hU, her] at FD
        rw [hU, her, hyl] at hcan
        obtain ⟨mn, hmn⟩ : ∃ mn, U.names.length = mn := ⟨_, rfl⟩
        obtain ⟨me, hme⟩ : ∃ me, U.events.length = me := ⟨_, rfl⟩
        rw [hmn, hme] at FD
        rw [hme] at hcan
        have HFD := Lib.hid FD
        have HCAN := Lib.hid hcan
        have HRY := Lib.hid hrd
        have HBR2 := Lib.hid hBr
        clear FD hcan hU her hmn hme hrd hyl hBr
        go_wp2_with fail
        clear hix
        refine HFD.out.mono ?_
        rintro e w7 ⟨NB, mc, EB, fc, rfl, hok7, hB7⟩
        have hal := (Below.refl _ w7).alloc (Nat.le_refl _) (.cells #[.slice NB mn mc, .slice EB me fc] 25)
        have hu8 := Blk.new w7 #[.slice NB mn mc, .slice EB me fc] 25 [.slice NB mn mc, .slice EB me fc] rfl
        have hok8 := hok7.below hal
        have hry8 := (HRY.out.below hB7).below hal
        have hb67 := HBR2.out.trans (hB7.mono HBR2.out.size)
        have hb8 := hb67.trans (hal.mono hb67.size)
        obtain ⟨w8, hw8⟩ : ∃ w8, w7.alloc (.cells #[.slice NB mn mc, .slice EB me fc] 25) = w8 := ⟨_, rfl⟩
        obtain ⟨g7, hg7⟩ : ∃ g7, w7.heap.size = g7 := ⟨_, rfl⟩
        rw [hw8] at hu8 hok8 hry8 hb8
        rw [hg7] at hu8
        obtain ⟨V, hV⟩ : ∃ V, V = w8.drew := ⟨_, rfl⟩
        have HUV := Lib.hid (show Blk V g7 [.slice NB mn mc, .slice EB me fc] by rw [hV]; exact hu8.drew)
        have HOV := Lib.hid (show TrOk Any V NB mn mc EB me fc U by rw [hV]; exact TrOk.below hok8 (Below.refl _ _).drew)
        have HYV := Lib.hid (show Rd .u8 V A3 n3 y3 by rw [hV]; exact hry8.below (Below.refl _ _).drew)
        have HBV := Lib.hid (show Below w6.heap.size w6 V by rw [hV]; exact hb8.drew)
        clear hal hu8 hok7 hok8 hry8 hb67 hb8 hB7 HFD HRY HBR2
        by_cases he0 : er = 0
        · subst he0
          obtain ⟨hen, h14⟩ := HCAN.out rfl
          have FE := landEncode NB mn mc EB me fc U V HOV.out (by omega)
          rw [hen] at FE
          obtain ⟨s, hsy⟩ : ∃ s, strOfNums y3 = s := ⟨_, rfl⟩
          have HFE := Lib.hid (hsy ▸ FE.mono fun e w' hm => (show GotLog V (strOfNums y3) e w' from by
            obtain ⟨A', c', he', hr', -, -, -, -, hb'⟩ := made_slice hm HYV.out.all
            exact ⟨A', _, c', he', fun W hW => bytes_str (hr'.below hW), hb'⟩))
          have HCV := Lib.hid (show ∀ W, Below V.heap.size V W → (convert 29 9 (.slice A3 n3 c3)).run Try.prog W = .ok (.string s) W from fun W hW => hsy ▸ bytes_str (HYV.out.below hW))
          clear FE hen hsy HCAN HOV HYV
          go_wp2_with fail
          clear hw8 hg7
          refine wp_region_held_drew (S := fun W => (W.cell? ⟨g7, 0, none⟩ = some (.slice NB mn mc) ∧ W.cell? ⟨g7, 1, none⟩ = some (.slice EB me fc)) ∧ (convert 29 9 (.slice A3 n3 c3)).run Try.prog W = .ok (.string s) W) (by kernel_rfl) (by rw [← hV]; exact ⟨⟨HUV.out.cell 0 rfl, HUV.out.cell 1 rfl⟩, HCV.out V (Below.refl _ _)⟩) (fun hHeld => ?_)
          rw [← hV] at hHeld ⊢
          clear hV
          refine wpAnyH_take (i := 0) (oi := ?tko67) (v := ?tkv67) ?tkh67 (by kernel_rfl) (by kernel_rfl) (by kernel_rfl) ?tkq67 ?tky67 hHeld ?tkr67
          case tkh67 => (simp only [List.getElem?_toArray, List.getElem?_cons_zero]; rfl)
          case tkq67 => exact fun _ _ _ h => h
          case tky67 => exact Or.inl ⟨by rfl, by intro wSw hSw; (try dsimp only at hSw); go_simp; try with_reducible rfl⟩
          try simp only [Act.put, List.setIfInBounds_toArray, List.set_cons_zero, List.set_cons_succ]
          refine wpAnyH_take (i := 1) (oi := ?tko68) (v := ?tkv68) ?tkh68 (by kernel_rfl) (by kernel_rfl) (by kernel_rfl) ?tkq68 ?tky68 hHeld ?tkr68
          case tkh68 => (simp only [List.getElem?_toArray, List.getElem?_cons_succ, List.getElem?_cons_zero]; rfl)
          case tkq68 => exact fun _ _ _ h => h
          case tky68 => exact Or.inl ⟨by rfl, by intro wSw hSw; (try dsimp only at hSw); go_simp; try with_reducible rfl⟩
          try simp only [Act.put, List.setIfInBounds_toArray, List.set_cons_zero, List.set_cons_succ]
          refine wpAnyH_take (i := 2) (oi := ?tko69) (v := ?tkv69) ?tkh69 (by kernel_rfl) (by kernel_rfl) (by kernel_rfl) ?tkq69 ?tky69 hHeld ?tkr69
          case tkh69 => (simp only [List.getElem?_toArray, List.getElem?_cons_succ, List.getElem?_cons_zero]; rfl)
          case tkq69 => exact fun _ _ _ h => h
          case tky69 => exact Or.inl ⟨by rfl, by intro wSw hSw; (try dsimp only at hSw); go_simp; try with_reducible rfl⟩
          try simp only [Act.put, List.setIfInBounds_toArray, List.set_cons_zero, List.set_cons_succ]
          refine wpAnyH_take (i := 3) (oi := ?tko70) (v := ?tkv70) ?tkh70 (by kernel_rfl) (by kernel_rfl) (by kernel_rfl) ?tkq70 ?tky70 hHeld ?tkr70
          case tkh70 => (simp only [List.getElem?_toArray, List.getElem?_cons_succ, List.getElem?_cons_zero]; rfl)
          case tkq70 => exact fun _ _ _ h => h
          case tky70 => exact Or.inl ⟨by rfl, by intro wSw hSw; (try dsimp only at hSw); go_simp; try with_reducible rfl⟩
          try simp only [Act.put, List.setIfInBounds_toArray, List.set_cons_zero, List.set_cons_succ]
          refine wpAnyH_take (i := 6) (oi := ?tko71) (v := ?tkv71) ?tkh71 (by kernel_rfl) (by kernel_rfl) (by kernel_rfl) ?tkq71 ?tky71 hHeld ?tkr71
          case tkh71 => (simp only [List.getElem?_toArray, List.getElem?_cons_succ, List.getElem?_cons_zero]; rfl)
          case tkq71 => exact fun _ _ _ h => h
          case tky71 => exact Or.inl ⟨by rfl, by intro wSw hSw; (try dsimp only at hSw); go_simp; try with_reducible rfl⟩
          try simp only [Act.put, List.setIfInBounds_toArray, List.set_cons_zero, List.set_cons_succ]
          refine wpAnyH_take (i := 7) (oi := ?tko72) (v := ?tkv72) ?tkh72 (by kernel_rfl) (by kernel_rfl) (by kernel_rfl) ?tkq72 ?tky72 hHeld ?tkr72
          case tkh72 => (simp only [List.getElem?_toArray, List.getElem?_cons_succ, List.getElem?_cons_zero]; rfl)
          case tkq72 => exact fun _ _ _ h => h
          case tky72 => exact Or.inl ⟨by rfl, by intro wSw hSw; (try dsimp only at hSw); go_simp; try with_reducible rfl⟩
          try simp only [Act.put, List.setIfInBounds_toArray, List.set_cons_zero, List.set_cons_succ]
          refine wpAnyH_ready (rs := [4]) (by kernel_rfl) (by simp) ?_
          refine AllReadyH.cons (o := ?tko73) ?tkh73 (fun Kt73 hKt73 => ?_) AllReadyH.nil
          case tkh73 => (simp only [List.getElem?_toArray, List.getElem?_cons_succ, List.getElem?_cons_zero]; rfl)
          go_simp
          (go_at_call 12; refine HFE.out.mono ?_; rintro e v1 ⟨A9, n9, c9, rfl, hc9, hd1⟩; have k1 := HUV.out.later hd1)
          refine hKt73.out _ _ ?_ (fun hHt73 => ?_)
          · (exact ⟨⟨k1.cell 0 rfl, k1.cell 1 rfl⟩, HCV.out _ hd1⟩)
          clear hKt73 Kt73 hHeld
          have hHeld := hHt73
          clear hHt73
          try simp only [Act.put, List.setIfInBounds_toArray, List.set_cons_zero, List.set_cons_succ]
          refine Held.more (fun W => ((W.cell? ⟨g7, 0, none⟩ = some (.slice NB mn mc) ∧ W.cell? ⟨g7, 1, none⟩ = some (.slice EB me fc)) ∧ (convert 29 9 (.slice A3 n3 c3)).run Try.prog W = .ok (.string s) W) ∧ (convert 29 9 (.slice A9 n9 c9)).run Try.prog W = .ok (.string s) W) (fun W h => h.1) ⟨hHeld, hc9 _ (Below.refl _ _)⟩ (fun hHeld => ?_)
          refine wpAnyH_take (i := 5) (oi := ?tko74) (v := ?tkv74) ?tkh74 (by kernel_rfl) (by kernel_rfl) (by kernel_rfl) ?tkq74 ?tky74 hHeld ?tkr74
          case tkh74 => (simp only [List.getElem?_toArray, List.getElem?_cons_succ, List.getElem?_cons_zero]; rfl)
          case tkq74 => exact fun _ _ _ h => h
          case tky74 => exact Or.inl ⟨by rfl, by intro wSw hSw; (try dsimp only at hSw); go_simp; try with_reducible rfl⟩
          try simp only [Act.put, List.setIfInBounds_toArray, List.set_cons_zero, List.set_cons_succ]
          refine wpAnyH_take (i := 8) (oi := ?tko75) (v := ?tkv75) ?tkh75 (by kernel_rfl) (by kernel_rfl) (by kernel_rfl) ?tkq75 ?tky75 hHeld ?tkr75
          case tkh75 => (simp only [List.getElem?_toArray, List.getElem?_cons_succ, List.getElem?_cons_zero]; rfl)
          case tkq75 => exact fun _ _ _ h => h
          case tky75 => exact Or.inl ⟨by rfl, by intro wSw hSw; (try dsimp only at hSw); go_simp; try with_reducible rfl⟩
          try simp only [Act.put, List.setIfInBounds_toArray, List.set_cons_zero, List.set_cons_succ]
          refine wpAnyH_take (i := 9) (oi := ?tko76) (v := ?tkv76) ?tkh76 (by kernel_rfl) (by kernel_rfl) (by kernel_rfl) ?tkq76 ?tky76 hHeld ?tkr76
          case tkh76 => (simp only [List.getElem?_toArray, List.getElem?_cons_succ, List.getElem?_cons_zero]; rfl)
          case tkq76 => exact fun _ _ _ h => h
          case tky76 => exact Or.inl ⟨by rfl, by intro wSw hSw; (try dsimp only at hSw); go_simp; try with_reducible rfl⟩
          try simp only [Act.put, List.setIfInBounds_toArray, List.set_cons_zero, List.set_cons_succ]
          refine wpAnyH_take (i := 10) (oi := ?tko77) (v := ?tkv77) ?tkh77 (by kernel_rfl) (by kernel_rfl) (by kernel_rfl) ?tkq77 ?tky77 hHeld ?tkr77
          case tkh77 => (simp only [List.getElem?_toArray, List.getElem?_cons_succ, List.getElem?_cons_zero]; rfl)
          case tkq77 => exact fun _ _ _ h => h
          case tky77 => exact Or.inl ⟨by rfl, by intro wSw hSw; (try dsimp only at hSw); go_simp; try with_reducible rfl⟩
          try simp only [Act.put, List.setIfInBounds_toArray, List.set_cons_zero, List.set_cons_succ]
          refine wpAnyH_take (i := 11) (oi := ?tko78) (v := ?tkv78) ?tkh78 (by kernel_rfl) (by kernel_rfl) (by kernel_rfl) ?tkq78 ?tky78 hHeld ?tkr78
          case tkh78 => (simp only [List.getElem?_toArray, List.getElem?_cons_succ, List.getElem?_cons_zero]; rfl)
          case tkq78 => exact fun _ _ _ h => h
          case tky78 => exact Or.inl ⟨by rfl, by intro wSw hSw; (try dsimp only at hSw); go_simp; try with_reducible rfl⟩
          try simp only [Act.put, List.setIfInBounds_toArray, List.set_cons_zero, List.set_cons_succ]
          refine wpAnyH_take (i := 12) (oi := ?tko79) (v := ?tkv79) ?tkh79 (by kernel_rfl) (by kernel_rfl) (by kernel_rfl) ?tkq79 ?tky79 hHeld ?tkr79
          case tkh79 => (simp only [List.getElem?_toArray, List.getElem?_cons_succ, List.getElem?_cons_zero]; rfl)
          case tkq79 => exact fun _ _ _ h => h
          case tky79 => exact Or.inl ⟨by rfl, by intro wSw hSw; (try dsimp only at hSw); go_simp; try with_reducible rfl⟩
          try simp only [Act.put, List.setIfInBounds_toArray, List.set_cons_zero, List.set_cons_succ]
          refine wpAnyH_take (i := 13) (oi := ?tko80) (v := ?tkv80) ?tkh80 (by kernel_rfl) (by kernel_rfl) (by kernel_rfl) ?tkq80 ?tky80 hHeld ?tkr80
          case tkh80 => (simp only [List.getElem?_toArray, List.getElem?_cons_succ, List.getElem?_cons_zero]; rfl)
          case tkq80 => exact fun _ _ _ h => h
          case tky80 => exact Or.inl ⟨by rfl, by intro wSw hSw; (try dsimp only at hSw); go_simp; try with_reducible rfl⟩
          try simp only [Act.put, List.setIfInBounds_toArray, List.set_cons_zero, List.set_cons_succ]
          refine wpAnyH_take (i := 14) (oi := ?tko81) (v := ?tkv81) ?tkh81 (by kernel_rfl) (by kernel_rfl) (by kernel_rfl) ?tkq81 ?tky81 hHeld ?tkr81
          case tkh81 => (simp only [List.getElem?_toArray, List.getElem?_cons_succ, List.getElem?_cons_zero]; rfl)
          case tkq81 => exact fun _ _ _ h => h
          case tky81 => exact Or.inl ⟨by rfl, by intro wSw hSw; (try dsimp only at hSw); go_simp; try with_reducible rfl⟩
          try simp only [Act.put, List.setIfInBounds_toArray, List.set_cons_zero, List.set_cons_succ]
          refine wpAnyH_take (i := 15) (oi := ?tko82) (v := ?tkv82) ?tkh82 (by kernel_rfl) (by kernel_rfl) (by kernel_rfl) ?tkq82 ?tky82 hHeld ?tkr82
          case tkh82 => (simp only [List.getElem?_toArray, List.getElem?_cons_succ, List.getElem?_cons_zero]; rfl)
          case tkq82 => exact fun _ _ _ h => h
          case tky82 => exact Or.inl ⟨by rfl, by intro wSw hSw; (try dsimp only at hSw); go_simp; try with_reducible rfl⟩
          try simp only [Act.put, List.setIfInBounds_toArray, List.set_cons_zero, List.set_cons_succ]
          refine wpAnyH_take (i := 16) (oi := ?tko83) (v := ?tkv83) ?tkh83 (by kernel_rfl) (by kernel_rfl) (by kernel_rfl) ?tkq83 ?tky83 hHeld ?tkr83
          case tkh83 => (simp only [List.getElem?_toArray, List.getElem?_cons_succ, List.getElem?_cons_zero]; rfl)
          case tkq83 => exact fun _ _ _ h => h
          case tky83 => exact Or.inl ⟨by rfl, by intro wSw hSw; (try dsimp only at hSw); go_simp; try with_reducible rfl⟩
          try simp only [Act.put, List.setIfInBounds_toArray, List.set_cons_zero, List.set_cons_succ]
          refine wpAnyH_done (by kernel_rfl) ?_ _
          have HBE := Lib.hid (HBV.out.trans (hd1.mono HBV.out.size))
          clear hHeld hd1 hc9 k1 HFE HCV HBV HUV
          go_wp2_with fail
          go_roundw
          case rel => exact ⟨3 + 1, by omega, by go_num, HBE.out⟩
          case measure => simp [intOf]
        have he0' : ((er : Int) == 0) = false := by simp; omega
        have u1 := HUV.out.cell 1 rfl
        have u0 := HUV.out.cell 0 rfl
        clear HCAN HOV HYV
        go_wp2_with fail
        clear hw8 hg7
        refine wp_region_held_drew (S := fun W => W.cell? ⟨g7, 0, none⟩ = some (.slice NB mn mc) ∧ W.cell? ⟨g7, 1, none⟩ = some (.slice EB me fc)) (by kernel_rfl) (by rw [← hV]; exact ⟨u0, u1⟩) (fun hHeld => ?_)
        rw [← hV] at hHeld ⊢
        clear hV
        refine wpAnyH_take (i := 0) (oi := ?tko84) (v := ?tkv84) ?tkh84 (by kernel_rfl) (by kernel_rfl) (by kernel_rfl) ?tkq84 ?tky84 hHeld ?tkr84
        case tkh84 => (simp only [List.getElem?_toArray, List.getElem?_cons_zero]; rfl)
        case tkq84 => exact fun _ _ _ h => h
        case tky84 => exact Or.inl ⟨by rfl, by intro wSw hSw; (try dsimp only at hSw); go_simp; try with_reducible rfl⟩
        try simp only [Act.put, List.setIfInBounds_toArray, List.set_cons_zero, List.set_cons_succ]
        refine wpAnyH_take (i := 1) (oi := ?tko85) (v := ?tkv85) ?tkh85 (by kernel_rfl) (by kernel_rfl) (by kernel_rfl) ?tkq85 ?tky85 hHeld ?tkr85
        case tkh85 => (simp only [List.getElem?_toArray, List.getElem?_cons_succ, List.getElem?_cons_zero]; rfl)
        case tkq85 => exact fun _ _ _ h => h
        case tky85 => exact Or.inl ⟨by rfl, by intro wSw hSw; (try dsimp only at hSw); go_simp; try with_reducible rfl⟩
        try simp only [Act.put, List.setIfInBounds_toArray, List.set_cons_zero, List.set_cons_succ]
        refine wpAnyH_take (i := 2) (oi := ?tko86) (v := ?tkv86) ?tkh86 (by kernel_rfl) (by kernel_rfl) (by kernel_rfl) ?tkq86 ?tky86 hHeld ?tkr86
        case tkh86 => (simp only [List.getElem?_toArray, List.getElem?_cons_succ, List.getElem?_cons_zero]; rfl)
        case tkq86 => exact fun _ _ _ h => h
        case tky86 => exact Or.inl ⟨by rfl, by intro wSw hSw; (try dsimp only at hSw); go_simp; try with_reducible rfl⟩
        try simp only [Act.put, List.setIfInBounds_toArray, List.set_cons_zero, List.set_cons_succ]
        refine Skips.skips (by kernel_rfl) (fun _ _ _ _ _ h => h) hHeld [3, 4, 5, 6, 7, 8, 9, 10, 11, 12, 13, 14, 15] _ 1 _ _ (by kernel_rfl) ?tkk87 ?tkr87
        case tkk87 => kernel_rfl
        simp only [Skips.skipAct, Skips.skipListed, List.getElem?_toArray, List.getElem?_cons_succ, List.getElem?_cons_zero, Act.put, List.setIfInBounds_toArray, List.set_cons_zero, List.set_cons_succ]
        refine wpAnyH_take (i := 16) (oi := ?tko88) (v := ?tkv88) ?tkh88 (by kernel_rfl) (by kernel_rfl) (by kernel_rfl) ?tkq88 ?tky88 hHeld ?tkr88
        case tkh88 => (simp only [List.getElem?_toArray, List.getElem?_cons_succ, List.getElem?_cons_zero]; rfl)
        case tkq88 => exact fun _ _ _ h => h
        case tky88 => exact Or.inl ⟨by rfl, by intro wSw hSw; (try dsimp only at hSw); go_simp; try with_reducible rfl⟩
        try simp only [Act.put, List.setIfInBounds_toArray, List.set_cons_zero, List.set_cons_succ]
        refine wpAnyH_done (by kernel_rfl) ?_ _
        clear hHeld
        by_cases he5 : er = 5
        · subst he5
          go_wp2_with fail
          go_roundw
          case rel => exact ⟨3 + 1, by omega, by go_num, HBV.out⟩
          case measure => simp [intOf]
        · have he5' : ((er : Int) == 5) = false := by simp; omega
          go_wp2_with fail
          go_roundw
          case rel => exact ⟨3 + 1, by omega, by go_num, HBV.out⟩
          case measure => simp [intOf]
      obtain rfl : j = 4 := by omega
      have HBR2 := Lib.hid hBr
      clear hBr
      go_wp2_with fail
      refine (awakeL wr).mono ?_
      rintro e w7 ⟨rfl, hB7⟩
      go_wp2
      go_ret
      have hb := HB6.out.trans (HBR2.out.mono HB6.out.size)
      exact ⟨rfl, hb.trans (hB7.mono hb.size)⟩
end Go.Proofs.Ytgfifjcecpllbaa.Log
