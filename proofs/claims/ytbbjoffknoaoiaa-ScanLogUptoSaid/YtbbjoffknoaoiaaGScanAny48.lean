/-
  The law ScanLog (stage 12), from contracts of the landed Head and Record. Written by wip/tools/genlog12.py. By an AI agent.
-/
import Derived.Test.YtbbjoffknoaoiaaGScanAny40
import Derived.Test.YtbbjoffknoaoiaaGScanAny44
import Derived.Test.YtbbjoffknoaoiaaGScanAny30
import Derived.Test.YtbbjoffknoaoiaaGScanAny46
import Derived.Test.YtbbjoffknoaoiaaGScanAny47
import Derived.Test.YtbbjoffknoaoiaaGScanAny33
namespace Go.Proofs.Ytbbjoffknoaoiaa.Scan
open Go.RowKit Go.Proofs.Ytbbjoffknoaoiaa.Ints Go.Proofs.Ytbbjoffknoaoiaa.Mem Go.Proofs.Ytbbjoffknoaoiaa.SumMath Go.Proofs.Ytbbjoffknoaoiaa.SumWalks Go.Proofs.Ytbbjoffknoaoiaa.Trace Go.Proofs.Ytbbjoffknoaoiaa.Record Go.Proofs.Ytbbjoffknoaoiaa.Log Go.Proofs.Ytbbjoffknoaoiaa.Src

set_option maxHeartbeats 16000000 in
set_option maxRecDepth 100000 in
theorem lawLogS {M : Nat} (hM : 1048576 ≤ M) (LR : RecC M) (LH : HeadC M) (A0 : Option Addr) (n0 c0 : Nat) (b0 : List Int) (start : Int) (N : Option Addr) (k kc : Nat) (ns : List Int) (p q x : Nat) (B : Option Addr) (m bd : Nat) (sc : List Int) (w : World)
    (h0 : Rd .u8 w A0 n0 b0) (hc0 : n0 ≤ c0) (hcm0 : c0 ≤ maxLen) (hn0 : n0 ≤ 1048576) (hs : 0 ≤ start ∧ start ≤ 18446744073709551615) (hN : Rd .u16 w N k ns) (hk : k ≤ maxLen) (hnn : ∀ z ∈ ns, 0 ≤ z)
    (hp : p ≤ 65535) (hq : q ≤ 65535) (hx : x ≤ 255) (hsc : Rd .i64 w B m sc) (hm : m * 8 ≤ 140737488351232) :
    Calls Try.prog 6 #[.slice A0 n0 c0, .int .u64 start, .slice N k kc, .int .u16 (p : Int), .int .u16 (q : Int), .int .u8 (x : Int), .slice B m bd] w fun e w' => e = .returned (.bool true) ∧ Below w.heap.size w w' := by
  have q63 : maxLen = 9223372036854775807 := rfl
  have HMK := Lib.hid (lawMake start N k kc ns w hs hN hk)
  obtain ⟨e1, e2, e3⟩ := enc_small (start := start) hnn
  have e4 := (make_small start ns).1
  obtain ⟨T, hT⟩ : ∃ T, makeM start ns = T := ⟨_, rfl⟩
  rw [hT] at HMK e1 e2 e3 e4
  obtain ⟨b, hb⟩ : ∃ b, encL T = b := ⟨_, rfl⟩
  have HE := Lib.hid (fun NA nn nc EA ne ec W (h : TrOk Any W NA nn nc EA ne ec T) => landEncode NA nn nc EA ne ec T W h (by rw [← h.elen]; omega))
  rw [hb] at HE e1 e2 e3
  have HBY := Lib.hid e3
  obtain ⟨n, hn⟩ : ∃ n, b.length = n := ⟨_, rfl⟩
  rw [hn] at e1 e2
  have HLN := Lib.hid hn
  have HD0 := Lib.hid h0
  have HSC := Lib.hid hsc
  have HLH := Lib.hid (fun S g b sc f N W hs' hN' (hl : b.length ≤ 1048576) => LH S g b sc f N W hs' hN' (by omega))
  have HLR := Lib.hid (fun S g b sc f N p props W hs' hN' hp' (hl : b.length ≤ 1048576) => LR S g b sc f N p props W hs' hN' hp' (by omega))
  unfold GotHeadS at HLH
  unfold GotRecS at HLR
  have HA := Lib.hid (fun W => lawAwake (by omega) LR LH W)
  clear LR LH hT hb e3 hn h0 hN hsc
  go_enter Try.func6, Try.ntmps6
  go_wp2_with fail
  refine HMK.out.mono ?_
  rintro e w1 ⟨NA, nn, nc, EA, ne, ec, rfl, hok, hB1⟩
  have HFE := Lib.hid (HE.out NA nn nc EA ne ec w1 hok)
  have HB1 := Lib.hid hB1
  clear hB1 hok HMK HE
  go_wp2_with fail
  refine HFE.out.mono ?_
  rintro e w2 hmade
  obtain ⟨A, c, rfl, hrd, hnc, hcm, -, -, hB2⟩ := made_slice hmade (u8_all HBY.out)
  rw [HLN.out] at hrd hnc ⊢
  have HB2 := Lib.hid (HB1.out.trans (hB2.mono HB1.out.size))
  have HRD := Lib.hid hrd
  have HSP := Lib.hid (lawSpoil A n c b p q x none 0 0 [] w2 hp hq hx hnc (by omega) hrd (by omega) (Rd.nil _ _ _))
  clear hmade hB2 hrd HFE
  go_wp2_with fail
  refine HSP.out.mono ?_
  rintro e w3 hmade
  obtain ⟨A3, c3, rfl, hrd3, hnc3, hcm3, -, -, hB3⟩ := made_slice hmade (cut_wf HBY.out (fun z h => by cases h) p q hx)
  have hL3 : (cutS b p q x ++ []).length ≤ 6000 := by rw [List.append_nil]; have := cut_len b p q x; have := HLN.out; omega
  obtain ⟨y3, hy3⟩ : ∃ y3, cutS b p q x ++ [] = y3 := ⟨_, rfl⟩
  obtain ⟨n3, hn3⟩ : ∃ n3, y3.length = n3 := ⟨_, rfl⟩
  rw [hy3] at hL3 hrd3 hnc3 ⊢
  rw [hn3] at hL3 hrd3 hnc3 ⊢
  have HB3 := Lib.hid (HB2.out.trans (hB3.mono HB2.out.size))
  have HIN := Lib.hid (show ∀ i : Nat, i < 3 → ∃ (AY : Option Addr) (nY cY : Nat) (y : List Int), Rd .u8 w3 AY nY y ∧ nY ≤ cY ∧ cY ≤ maxLen ∧ nY ≤ 1048576 ∧ ∀ W, (Instr.index 41 (.agg #[.slice A0 n0 c0, .slice A n c, .slice A3 n3 c3]) (.int .i64 (i : Int))).run Try.prog W = .ok (.slice AY nY cY) W from fun i hi => by
    rcases (show i = 0 ∨ i = 1 ∨ i = 2 by omega) with rfl | rfl | rfl
    · exact ⟨A0, n0, c0, b0, HD0.out.below HB3.out, hc0, hcm0, hn0, fun W => by kernel_rfl⟩
    · exact ⟨A, n, c, b, HRD.out.below hB3, hnc, hcm, by omega, fun W => by kernel_rfl⟩
    · exact ⟨A3, n3, c3, y3, hrd3, hnc3, hcm3, by omega, fun W => by kernel_rfl⟩)
  clear hmade hrd3 hB3 hn3 hy3 HSP HD0 HRD hc0 hcm0 hn0 hnc hcm hnc3 hcm3 hL3
  go_wp2_with fail
  go_loopw [44] (fun iv wr => ∃ i : Nat, i ≤ 3 ∧ iv = .int .i64 i ∧ Below w3.heap.size w3 wr) (fun iv _ => 3 - (intOf iv).toNat)
  case atStart => exact ⟨0, by omega, rfl, Below.refl _ _⟩
  case round =>
    obtain ⟨i, hi, rfl, hBr⟩ := hrel
    by_cases hin : i < 3
    rotate_left
    · have hie : i = 3 := by omega
      subst hie
      have HBE := Lib.hid (HB3.out.trans (hBr.mono HB3.out.size))
      clear hBr
      go_wp2_with fail
      refine (HA.out wr).mono ?_
      rintro e w8 ⟨rfl, hB8⟩
      go_wp2
      go_ret
      exact ⟨rfl, HBE.out.trans (hB8.mono HBE.out.size)⟩
    obtain ⟨AY, nY, cY, y, hry, hyc, hycm, hyn, hix⟩ := HIN.out i hin
    have HYL := Lib.hid hry.len
    have HYB := Lib.hid (all_u8 hry.all)
    have HRY := Lib.hid (hry.below hBr)
    have HBr := Lib.hid hBr
    have hwr := Lib.hid (show Below w.heap.size w wr from HB3.out.trans (hBr.mono HB3.out.size))
    have HN := Lib.hid (landNew AY nY cY y B m bd sc (-1) wr hyc hycm HRY.out (HSC.out.below hwr.out) (by omega) hm)
    rw [fault_none nY] at HN
    clear hBr hry
    go_wp2_with fail
    clear hix
    refine HN.out.mono ?_
    rintro e w4 ⟨g, rfl, hS0, hgL, hB4⟩
    obtain ⟨S, hS4⟩ : ∃ S, LSrc S w4 g y sc nY 0 := ⟨_, hS0⟩
    have hg4 := hS4.lt
    have HS4 := Lib.hid hS4
    have HB4 := Lib.hid (HBr.out.trans (hB4.mono HBr.out.size))
    have HFD := Lib.hid (landDecodeN AY nY cY y w4 hyc hycm (by omega) (HRY.out.below hB4))
    have hg3 : w3.heap.size ≤ g := by have := HBr.out.size; omega
    unfold GotDecN at HFD
    clear hS0 hS4 hB4 HN HRY HBr hwr hyc hycm
    obtain ⟨U, hU⟩ : ∃ U, decT y = U := ⟨_, rfl⟩
    obtain ⟨er, her⟩ : ∃ er, decE y = er := ⟨_, rfl⟩
    rw [hU, her] at HFD
    obtain ⟨un, hun⟩ : ∃ un, U.names.length = un := ⟨_, rfl⟩
    obtain ⟨ue, hue⟩ : ∃ ue, U.events.length = ue := ⟨_, rfl⟩
    rw [hun, hue] at HFD
    have HU := Lib.hid hU
    have HER := Lib.hid her
    have HUN := Lib.hid hun
    have HUE := Lib.hid hue
    clear hU her hun hue
    go_wp2_with fail
    refine HFD.out.mono ?_
    rintro e w5 ⟨NB, mc, EB, fc, rfl, hok5, hNB, hB5⟩
    have hal := (Below.refl _ w5).alloc (Nat.le_refl _) (.cells #[.slice NB un mc, .slice EB ue fc] 34)
    have hx6 := Blk.new w5 #[.slice NB un mc, .slice EB ue fc] 34 [.slice NB un mc, .slice EB ue fc] rfl
    have hok6 := hok5.below hal
    have hS6 := (HS4.out.below hB5).below hal
    have hB45 := HB4.out.trans (hB5.mono HB4.out.size)
    have HB6 := Lib.hid (hB45.trans (hal.mono hB45.size))
    have h45 := hB5.size
    obtain ⟨w6, hw6⟩ : ∃ w6, w5.alloc (.cells #[.slice NB un mc, .slice EB ue fc] 34) = w6 := ⟨_, rfl⟩
    obtain ⟨g5, hg5⟩ : ∃ g5, w5.heap.size = g5 := ⟨_, rfl⟩
    rw [hw6] at hx6 hok6 hS6 HB6
    rw [hg5] at hx6 h45
    have hgg : g ≠ g5 := by omega
    have HX6 := Lib.hid hx6
    have HO6 := Lib.hid hok6
    have HNB := Lib.hid hNB
    have hmu : ue ≤ 9223372036854775807 := by have := hok6.ecap; omega
    have hmn : un ≤ 9223372036854775807 := by have := hok6.ncap; omega
    have hm1 : (ue : Int) ≤ 9223372036854775807 := by omega
    have FH := HLH.out S g y sc nY 0 w6 hS6 (by decide) (by rw [HYL.out]; exact hyn)
    have hfy : headF y nY = headD y 5 := by rw [← HYL.out]; exact headF_any y
    rw [hfy, HYL.out] at FH
    clear hok5 hal hx6 hok6 hS6 hB45 hNB hB5 HS4 HB4 HFD hfy
    by_cases hE : (headD y 5).2.2 = 0
    rotate_left
    · obtain ⟨d1, d2, d3⟩ := dec_bad hE
      rw [d1] at FH
      have u1 : U.names = [] := by rw [← HU.out, d2]; rfl
      have u2 : U.events = [] := by rw [← HU.out, d2]; rfl
      have u3 : un = 0 := by rw [← HUN.out, u1]; rfl
      have u4 : ue = 0 := by rw [← HUE.out, u2]; rfl
      have u5 : er = 5 := by rw [← HER.out, d3]
      subst u3; subst u4; subst u5
      simp only [List.length_nil] at FH
      have HFH := Lib.hid FH
      clear FH d1 d2 d3 u1 u2 hE
      go_wp2_with fail
      clear hw6 hg5
      refine HFH.out.mono ?_
      rintro e w7 ⟨L, lc, N', rfl, -, -, -, hgr7⟩
      have HX7 := Lib.hid (HX6.out.grown hgr7 (fun e => by injection e; omega))
      have x0 := HX7.out.cell 0 rfl
      have x1 := HX7.out.cell 1 rfl
      have HB7 := Lib.hid (HB6.out.trans (below_grown hgr7 HB6.out.size hg3))
      have HFE := Lib.hid (equalStrs L NB 0 lc 0 mc [] [] w7 rfl rfl (Strs.nil _ _) (Strs.nil _ _) (by omega) (by omega))
      rw [show decide (([] : List (List UInt8)) = []) = true from decide_eq_true rfl] at HFE
      clear hgr7 HX6 HB6 HFH
      go_wp2_with fail
      refine HFE.out.mono ?_
      rintro e w8 ⟨rfl, qq, rfl⟩
      have HB8 := Lib.hid (below_drewN HB7.out qq)
      obtain ⟨W8, hW8⟩ : ∃ W8, w7.drewN qq = W8 := ⟨_, rfl⟩
      rw [hW8] at HB8 ⊢
      clear hW8 HFE HB7 HX7 x0 x1
      go_wp2_with fail
      go_roundw
      case rel => exact ⟨i + 1, by omega, by go_num, HB8.out⟩
      case measure => simp [intOf]; omega
    obtain ⟨j1, j2, j3, j4⟩ := dec_walk HYB.out hE
    have hpl := head_place (b := y) (miss := 5) (by decide) hE
    have hns := head_names (b := y) (miss := 5) (by decide)
    rw [HU.out] at j1 j3 j4
    rw [HER.out] at j2 j4
    rw [HYL.out] at j3 j4 hpl
    obtain ⟨l, hl⟩ : ∃ l, (headD y 5).1 = l := ⟨_, rfl⟩
    obtain ⟨hd, hhd⟩ : ∃ hd, (headD y 5).2.1 = hd := ⟨_, rfl⟩
    rw [hE] at FH
    rw [hl] at FH j1 j3 j4 hns
    rw [hhd] at FH j3 j4 hpl
    have hll : l.length = un := by rw [← j1]; exact HUN.out
    rw [hll] at FH j3 j4 hns
    rw [HUE.out] at j3 j4
    have HJ3 := Lib.hid j3
    have HJ4 := Lib.hid j4
    have HLL := Lib.hid hll
    have HJ1 := Lib.hid j1
    have HFH := Lib.hid FH
    have hd1 : (hd : Int) ≤ 1048576 := by omega
    have hun64 : un ≤ 64 := hns.1
    have hen : er ≠ 5 := j2
    have hen1 : ((er : Int) == 5) = false := by simp; omega
    have hen2 : ¬ ((er : Int) = 5) := by omega
    have hen3 : ((er : Int) != 5) = true := by rw [bne, hen1]; rfl
    clear FH j1 j3 j4 hl hhd hll hE j2 hns
    go_wp2_with fail
    clear hw6 hg5
    refine HFH.out.mono ?_
    rintro e w7 ⟨L, lc, N', rfl, hown7, hS7, hN7, hgr7⟩
    have HX7 := Lib.hid (HX6.out.grown hgr7 (fun e => by injection e; omega))
    have HO7 := Lib.hid (tr_grown HO6.out HNB.out hgr7 hg4)
    have x0 := HX7.out.cell 0 rfl
    have x1 := HX7.out.cell 1 rfl
    have HB7 := Lib.hid (HB6.out.trans (below_grown hgr7 HB6.out.size hg3))
    obtain ⟨-, hst1, hc1, hcm1⟩ := strs_own hown7
    have FE := equalStrs L NB un lc un mc l U.names w7 HLL.out HUN.out hst1 HO7.out.names (by omega) (by omega)
    rw [HJ1.out, show decide (l = l) = true from decide_eq_true rfl] at FE
    have HFE := Lib.hid FE
    have HS7 := Lib.hid hS7
    clear hgr7 hown7 hst1 FE hS7 HX6 HO6 HB6 HFH
    go_wp2_with fail
    refine HFE.out.mono ?_
    rintro e w8 ⟨rfl, qq, rfl⟩
    have hdr := below_drewN (Below.refl w7.heap.size w7) qq
    have HB8 := Lib.hid (below_drewN HB7.out qq)
    have HX8 := Lib.hid (HX7.out.later hdr)
    have HO8 := Lib.hid (HO7.out.below hdr)
    have HS8 := Lib.hid (HS7.out.below hdr)
    obtain ⟨W8, hW8⟩ : ∃ W8, w7.drewN qq = W8 := ⟨_, rfl⟩
    rw [hW8] at HB8 HX8 HO8 HS8 ⊢
    clear hW8 hdr HFE HB7 HX7 HO7 HS7 x0 x1
    go_wp2_with fail
    have hN0 : N' ≤ nY := by omega
    clear hN7
    go_loopw [23, 92] (fun av iv wq => ∃ j Nj : Nat, j ≤ ue ∧ av = .int .i64 (placeD y hd j : Nat) ∧ iv = .int .i64 j ∧ placeD y hd j ≤ nY ∧ j ≤ placeD y hd j ∧ Nj ≤ 1048576 * (j + 1) ∧ LSrc S wq g y sc nY Nj ∧ Blk wq g5 [.slice NB un mc, .slice EB ue fc] ∧ TrOk (fun b => w4.heap.size ≤ b) wq NB un mc EB ue fc U ∧ Below w3.heap.size w3 wq) (fun _ iv _ => ue - (intOf iv).toNat)
    case atStart => exact ⟨0, N', Nat.zero_le _, rfl, rfl, by show hd ≤ nY; omega, Nat.zero_le _, by omega, HS8.out, HX8.out, HO8.out, HB8.out⟩
    case round =>
      clear HS8 HX8 HO8 HB8 hN0 N'
      obtain ⟨wo, hwo⟩ : ∃ wo, wo = wr := ⟨_, rfl⟩
      obtain ⟨j, Nj, hj, rfl, rfl, hpj, hjp, hNj, hSj, hXj, hOj, hBj⟩ := hrel
      by_cases hjn : j < ue
      · obtain ⟨s1, s2, s3, s4, s5⟩ := HJ3.out j hjn
        have hgr9 := hSj.lt
        obtain ⟨a, ha⟩ : ∃ a, placeD y hd j = a := ⟨_, rfl⟩
        obtain ⟨a', ha'⟩ : ∃ a', placeD y hd (j + 1) = a' := ⟨_, rfl⟩
        obtain ⟨ev, hev⟩ : ∃ ev, U.events.getD j noEv = ev := ⟨_, rfl⟩
        rw [ha] at s1 s2 s3 s4 hpj hjp ⊢
        rw [ha'] at s3 s4 s5
        rw [hev] at s2
        have HAP := Lib.hid ha'
        have HEV := Lib.hid hev
        have FR := HLR.out S g y sc nY Nj (a : Int) (un : Int) wr hSj (by omega) ⟨by omega, by omega⟩ (by rw [HYL.out]; exact hyn)
        rw [s1, s2, s3, HYL.out] at FR
        obtain ⟨m3, hm3⟩ : ∃ m3, ev.ids.length = m3 := ⟨_, rfl⟩
        rw [hm3] at FR
        have HFR := Lib.hid FR
        have HXj := Lib.hid hXj
        have HOj := Lib.hid hOj
        have HBj := Lib.hid hBj
        clear FR s1 s2 s3 ha ha' hev hSj hXj hOj hBj hwo
        go_wp2_with fail
        refine HFR.out.mono ?_
        rintro e v1 ⟨K, kcc, Nj', rfl, hokk, hSk, hNk, hgrk, hKk⟩
        have hal := (Below.refl _ v1).alloc (Nat.le_refl _) (.cells #[.int .u64 ev.time, .slice K m3 kcc] 38)
        have hx2 := Blk.new v1 #[.int .u64 ev.time, .slice K m3 kcc] 38 [.int .u64 ev.time, .slice K m3 kcc] rfl
        have hXk := (HXj.out.grown hgrk (fun e => by injection e; omega)).later hal
        have hOk := (tr_grown HOj.out HNB.out hgrk hg4).below hal
        have hBk := HBj.out.trans (below_grown hgrk HBj.out.size hg3)
        have hSk2 := hSk.below hal
        have hok2 := hokk.below hal
        have hB2 := hBk.trans (hal.mono hBk.size)
        obtain ⟨b', off, K9, c9, hEB, y0, y1, hok9⟩ := hOk.evs.kids (k := j) (by rw [HUE.out]; exact hjn)
        subst hEB
        rw [HEV.out] at y0 y1 hok9
        rw [hm3] at y1
        obtain ⟨v2, hv2⟩ : ∃ v2, v1.alloc (.cells #[.int .u64 ev.time, .slice K m3 kcc] 38) = v2 := ⟨_, rfl⟩
        obtain ⟨g2, hg2⟩ : ∃ g2, v1.heap.size = g2 := ⟨_, rfl⟩
        rw [hv2] at hx2 hXk hOk hSk2 hok2 hB2 y0 y1 hok9
        rw [hg2] at hx2
        have hX2 := Lib.hid hx2
        have hXK := Lib.hid hXk
        have hSE := Lib.hid (fun W (hb : Below v2.heap.size v2 W) => refSameEvent ev ev K K9 kcc c9 W (hok2.below hb) (hok9.below hb))
        rw [show decide (ev = ev) = true from decide_eq_true rfl, hm3] at hSE
        have HOk := Lib.hid hOk
        have HSk := Lib.hid hSk2
        have HBk := Lib.hid hB2
        have hlt : ¬ ((a' : Int) ≤ (a : Int)) := by omega
        have hjj : (j : Int) < (ue : Int) := by omega
        have HY0 := Lib.hid y0
        have HY1 := Lib.hid y1
        clear hal hx2 hXk hOk hBk hSk2 hok2 hB2 hok9 hokk hSk hgrk hKk HFR HXj HOj HBj y0 y1
        go_wp2_with fail
        clear hv2 hg2
        obtain ⟨V, hV⟩ : ∃ V, V = v2.drew := ⟨_, rfl⟩
        have HDV := Lib.hid (show Below v2.heap.size v2 V by rw [hV]; exact (Below.refl _ _).drew)
        refine wp_region_held_drew (S := fun W => W.cell? ⟨g2, 0, none⟩ = some (.int .u64 ev.time) ∧ W.cell? ⟨g2, 1, none⟩ = some (.slice K m3 kcc) ∧ W.cell? ⟨g5, 1, none⟩ = some (.slice (some ⟨b', off, none⟩) ue fc) ∧ W.cell? ⟨b', off + j * 2, none⟩ = some (.int .u64 ev.time) ∧ W.cell? ⟨b', off + j * 2 + 1, none⟩ = some (.slice K9 m3 c9)) (by kernel_rfl) (by rw [← hV]; exact ⟨(hX2.out.later HDV.out).cell 0 rfl, (hX2.out.later HDV.out).cell 1 rfl, (hXK.out.later HDV.out).cell 1 rfl, below_cell HDV.out HY0.out, below_cell HDV.out HY1.out⟩) (fun hHeld => ?_)
        rw [← hV] at hHeld ⊢
        clear hV
        refine wpAnyH_take (i := 0) (oi := ?tko1) (v := ?tkv1) ?tkh1 (by kernel_rfl) (by kernel_rfl) (by kernel_rfl) ?tkq1 ?tky1 hHeld ?tkr1
        case tkh1 => (simp only [List.getElem?_toArray, List.getElem?_cons_zero]; rfl)
        case tkq1 => exact fun _ _ _ h => h
        case tky1 => exact Or.inl ⟨by rfl, by intro wSw hSw; (try dsimp only at hSw); go_simp; try with_reducible rfl⟩
        try simp only [Act.put, List.setIfInBounds_toArray, List.set_cons_zero, List.set_cons_succ]
        refine wpAnyH_take (i := 1) (oi := ?tko2) (v := ?tkv2) ?tkh2 (by kernel_rfl) (by kernel_rfl) (by kernel_rfl) ?tkq2 ?tky2 hHeld ?tkr2
        case tkh2 => (simp only [List.getElem?_toArray, List.getElem?_cons_succ, List.getElem?_cons_zero]; rfl)
        case tkq2 => exact fun _ _ _ h => h
        case tky2 => exact Or.inl ⟨by rfl, by intro wSw hSw; (try dsimp only at hSw); go_simp; try with_reducible rfl⟩
        try simp only [Act.put, List.setIfInBounds_toArray, List.set_cons_zero, List.set_cons_succ]
        refine wpAnyH_take (i := 2) (oi := ?tko3) (v := ?tkv3) ?tkh3 (by kernel_rfl) (by kernel_rfl) (by kernel_rfl) ?tkq3 ?tky3 hHeld ?tkr3
        case tkh3 => (simp only [List.getElem?_toArray, List.getElem?_cons_succ, List.getElem?_cons_zero]; rfl)
        case tkq3 => exact fun _ _ _ h => h
        case tky3 => exact Or.inl ⟨by rfl, by intro wSw hSw; (try dsimp only at hSw); go_simp; try with_reducible rfl⟩
        try simp only [Act.put, List.setIfInBounds_toArray, List.set_cons_zero, List.set_cons_succ]
        refine wpAnyH_take (i := 3) (oi := ?tko4) (v := ?tkv4) ?tkh4 (by kernel_rfl) (by kernel_rfl) (by kernel_rfl) ?tkq4 ?tky4 hHeld ?tkr4
        case tkh4 => (simp only [List.getElem?_toArray, List.getElem?_cons_succ, List.getElem?_cons_zero]; rfl)
        case tkq4 => exact fun _ _ _ h => h
        case tky4 => exact Or.inl ⟨by rfl, by intro wSw hSw; (try dsimp only at hSw); go_simp; try with_reducible rfl⟩
        try simp only [Act.put, List.setIfInBounds_toArray, List.set_cons_zero, List.set_cons_succ]
        refine wpAnyH_take (i := 4) (oi := ?tko5) (v := ?tkv5) ?tkh5 (by kernel_rfl) (by kernel_rfl) (by kernel_rfl) ?tkq5 ?tky5 hHeld ?tkr5
        case tkh5 => (simp only [List.getElem?_toArray, List.getElem?_cons_succ, List.getElem?_cons_zero]; rfl)
        case tkq5 => exact fun _ _ _ h => h
        case tky5 => exact Or.inl ⟨by rfl, by intro wSw hSw; (try dsimp only at hSw); go_simp; try with_reducible rfl⟩
        try simp only [Act.put, List.setIfInBounds_toArray, List.set_cons_zero, List.set_cons_succ]
        refine wpAnyH_take (i := 5) (oi := ?tko6) (v := ?tkv6) ?tkh6 (by kernel_rfl) (by kernel_rfl) (by kernel_rfl) ?tkq6 ?tky6 hHeld ?tkr6
        case tkh6 => (simp only [List.getElem?_toArray, List.getElem?_cons_succ, List.getElem?_cons_zero]; rfl)
        case tkq6 => exact fun _ _ _ h => h
        case tky6 => exact Or.inl ⟨by rfl, by intro wSw hSw; (try dsimp only at hSw); go_simp; try with_reducible rfl⟩
        try simp only [Act.put, List.setIfInBounds_toArray, List.set_cons_zero, List.set_cons_succ]
        refine wpAnyH_take (i := 6) (oi := ?tko7) (v := ?tkv7) ?tkh7 (by kernel_rfl) (by kernel_rfl) (by kernel_rfl) ?tkq7 ?tky7 hHeld ?tkr7
        case tkh7 => (simp only [List.getElem?_toArray, List.getElem?_cons_succ, List.getElem?_cons_zero]; rfl)
        case tkq7 => exact fun _ _ _ h => h
        case tky7 => exact Or.inl ⟨by rfl, by intro wSw hSw; (try dsimp only at hSw); go_simp; try with_reducible rfl⟩
        try simp only [Act.put, List.setIfInBounds_toArray, List.set_cons_zero, List.set_cons_succ]
        refine wpAnyH_take (i := 7) (oi := ?tko8) (v := ?tkv8) ?tkh8 (by kernel_rfl) (by kernel_rfl) (by kernel_rfl) ?tkq8 ?tky8 hHeld ?tkr8
        case tkh8 => (simp only [List.getElem?_toArray, List.getElem?_cons_succ, List.getElem?_cons_zero]; rfl)
        case tkq8 => exact fun _ _ _ h => h
        case tky8 => exact Or.inl ⟨by rfl, by intro wSw hSw; (try dsimp only at hSw); go_simp; try with_reducible rfl⟩
        try simp only [Act.put, List.setIfInBounds_toArray, List.set_cons_zero, List.set_cons_succ]
        refine wpAnyH_take (i := 8) (oi := ?tko9) (v := ?tkv9) ?tkh9 (by kernel_rfl) (by kernel_rfl) (by kernel_rfl) ?tkq9 ?tky9 hHeld ?tkr9
        case tkh9 => (simp only [List.getElem?_toArray, List.getElem?_cons_succ, List.getElem?_cons_zero]; rfl)
        case tkq9 => exact fun _ _ _ h => h
        case tky9 => exact Or.inl ⟨by rfl, by intro wSw hSw; (try dsimp only at hSw); go_simp; try with_reducible rfl⟩
        try simp only [Act.put, List.setIfInBounds_toArray, List.set_cons_zero, List.set_cons_succ]
        refine wpAnyH_ready (rs := [9]) (by kernel_rfl) (by simp) ?_
        refine AllReadyH.cons (o := ?tko10) ?tkh10 (fun Kt10 hKt10 => ?_) AllReadyH.nil
        case tkh10 => (simp only [List.getElem?_toArray, List.getElem?_cons_succ, List.getElem?_cons_zero]; rfl)
        go_simp
        (go_at_call 20; refine (hSE.out V HDV.out).mono ?_; rintro e v3 ⟨rfl, hd3⟩; have HD3 := Lib.hid (HDV.out.trans (hd3.mono HDV.out.size)))
        refine hKt10.out _ _ ?_ (fun hHt10 => ?_)
        · (exact ⟨(hX2.out.later HD3.out).cell 0 rfl, (hX2.out.later HD3.out).cell 1 rfl, (hXK.out.later HD3.out).cell 1 rfl, below_cell HD3.out HY0.out, below_cell HD3.out HY1.out⟩)
        clear hKt10 Kt10 hHeld
        have hHeld := hHt10
        clear hHt10
        try simp only [Act.put, List.setIfInBounds_toArray, List.set_cons_zero, List.set_cons_succ]
        refine wpAnyH_take (i := 10) (oi := ?tko11) (v := ?tkv11) ?tkh11 (by kernel_rfl) (by kernel_rfl) (by kernel_rfl) ?tkq11 ?tky11 hHeld ?tkr11
        case tkh11 => (simp only [List.getElem?_toArray, List.getElem?_cons_succ, List.getElem?_cons_zero]; rfl)
        case tkq11 => exact fun _ _ _ h => h
        case tky11 => exact Or.inl ⟨by rfl, by intro wSw hSw; (try dsimp only at hSw); go_simp; try with_reducible rfl⟩
        try simp only [Act.put, List.setIfInBounds_toArray, List.set_cons_zero, List.set_cons_succ]
        refine wpAnyH_take (i := 11) (oi := ?tko12) (v := ?tkv12) ?tkh12 (by kernel_rfl) (by kernel_rfl) (by kernel_rfl) ?tkq12 ?tky12 hHeld ?tkr12
        case tkh12 => (simp only [List.getElem?_toArray, List.getElem?_cons_succ, List.getElem?_cons_zero]; rfl)
        case tkq12 => exact fun _ _ _ h => h
        case tky12 => exact Or.inl ⟨by rfl, by intro wSw hSw; (try dsimp only at hSw); go_simp; try with_reducible rfl⟩
        try simp only [Act.put, List.setIfInBounds_toArray, List.set_cons_zero, List.set_cons_succ]
        refine wpAnyH_take (i := 12) (oi := ?tko13) (v := ?tkv13) ?tkh13 (by kernel_rfl) (by kernel_rfl) (by kernel_rfl) ?tkq13 ?tky13 hHeld ?tkr13
        case tkh13 => (simp only [List.getElem?_toArray, List.getElem?_cons_succ, List.getElem?_cons_zero]; rfl)
        case tkq13 => exact fun _ _ _ h => h
        case tky13 => exact Or.inl ⟨by rfl, by intro wSw hSw; (try dsimp only at hSw); go_simp; try with_reducible rfl⟩
        try simp only [Act.put, List.setIfInBounds_toArray, List.set_cons_zero, List.set_cons_succ]
        refine wpAnyH_take (i := 13) (oi := ?tko14) (v := ?tkv14) ?tkh14 (by kernel_rfl) (by kernel_rfl) (by kernel_rfl) ?tkq14 ?tky14 hHeld ?tkr14
        case tkh14 => (simp only [List.getElem?_toArray, List.getElem?_cons_succ, List.getElem?_cons_zero]; rfl)
        case tkq14 => exact fun _ _ _ h => h
        case tky14 => exact Or.inl ⟨by rfl, by intro wSw hSw; (try dsimp only at hSw); go_simp; try with_reducible rfl⟩
        try simp only [Act.put, List.setIfInBounds_toArray, List.set_cons_zero, List.set_cons_succ]
        refine wpAnyH_take (i := 14) (oi := ?tko15) (v := ?tkv15) ?tkh15 (by kernel_rfl) (by kernel_rfl) (by kernel_rfl) ?tkq15 ?tky15 hHeld ?tkr15
        case tkh15 => (simp only [List.getElem?_toArray, List.getElem?_cons_succ, List.getElem?_cons_zero]; rfl)
        case tkq15 => exact fun _ _ _ h => h
        case tky15 => exact Or.inl ⟨by rfl, by intro wSw hSw; (try dsimp only at hSw); go_simp; try with_reducible rfl⟩
        try simp only [Act.put, List.setIfInBounds_toArray, List.set_cons_zero, List.set_cons_succ]
        refine wpAnyH_take (i := 15) (oi := ?tko16) (v := ?tkv16) ?tkh16 (by kernel_rfl) (by kernel_rfl) (by kernel_rfl) ?tkq16 ?tky16 hHeld ?tkr16
        case tkh16 => (simp only [List.getElem?_toArray, List.getElem?_cons_succ, List.getElem?_cons_zero]; rfl)
        case tkq16 => exact fun _ _ _ h => h
        case tky16 => exact Or.inl ⟨by rfl, by intro wSw hSw; (try dsimp only at hSw); go_simp; try with_reducible rfl⟩
        try simp only [Act.put, List.setIfInBounds_toArray, List.set_cons_zero, List.set_cons_succ]
        refine wpAnyH_take (i := 16) (oi := ?tko17) (v := ?tkv17) ?tkh17 (by kernel_rfl) (by kernel_rfl) (by kernel_rfl) ?tkq17 ?tky17 hHeld ?tkr17
        case tkh17 => (simp only [List.getElem?_toArray, List.getElem?_cons_succ, List.getElem?_cons_zero]; rfl)
        case tkq17 => exact fun _ _ _ h => h
        case tky17 => exact Or.inl ⟨by rfl, by intro wSw hSw; (try dsimp only at hSw); go_simp; try with_reducible rfl⟩
        try simp only [Act.put, List.setIfInBounds_toArray, List.set_cons_zero, List.set_cons_succ]
        refine wpAnyH_done (by kernel_rfl) ?_ _
        clear hHeld hd3
        go_wp2_with fail
        go_roundw
        case rel => exact ⟨j + 1, Nj', by omega, by rw [HAP.out], by go_num, by rw [HAP.out]; omega, by rw [HAP.out]; omega, by omega, HSk.out.below HD3.out, hXK.out.later HD3.out, HOk.out.below HD3.out, HBk.out.trans (HD3.out.mono HBk.out.size)⟩
        case measure => simp [intOf]; omega
      have hje : j = ue := by omega
      subst hje
      obtain ⟨a, ha⟩ : ∃ a, placeD y hd j = a := ⟨_, rfl⟩
      have hJ4 := HJ4.out
      rw [ha] at hJ4 hpj hjp ⊢
      obtain ⟨sv, hsv⟩ : ∃ sv, scanV y nY (a : Int) (un : Int) = sv := ⟨_, rfl⟩
      obtain ⟨sn, hsn⟩ : ∃ sn, scanN y nY (a : Int) (un : Int) = sn := ⟨_, rfl⟩
      obtain ⟨se, hse⟩ : ∃ se, scanE y nY (a : Int) (un : Int) = se := ⟨_, rfl⟩
      rw [hsv, hse] at hJ4
      have FR := HLR.out S g y sc nY Nj (a : Int) (un : Int) wr hSj (by omega) ⟨by omega, by omega⟩ (by rw [HYL.out]; exact hyn)
      rw [hsv, hsn, hse, HYL.out] at FR
      obtain ⟨m3, hm3⟩ : ∃ m3, sv.ids.length = m3 := ⟨_, rfl⟩
      rw [hm3] at FR
      have HXj := Lib.hid hXj
      have HOj := Lib.hid hOj
      have HBj := Lib.hid hBj
      clear ha hsv hsn hse hSj hXj hOj hBj hwo hm3
      rcases hJ4 with ⟨rfl, rfl⟩ | ⟨rfl, rfl, hpos, hlt⟩ | ⟨h40, h48, rfl⟩
      · have HFR := Lib.hid FR
        clear FR
        go_wp2_with fail
        refine HFR.out.mono ?_
        rintro e v1 ⟨K, kcc, Nj', rfl, -, -, -, hgrk, -⟩
        have hal := (Below.refl _ v1).alloc (Nat.le_refl _) (.cells #[.int .u64 sv.time, .slice K m3 kcc] 38)
        have hBk := HBj.out.trans (below_grown hgrk HBj.out.size hg3)
        have hB2 := hBk.trans (hal.mono hBk.size)
        obtain ⟨v2, hv2⟩ : ∃ v2, v1.alloc (.cells #[.int .u64 sv.time, .slice K m3 kcc] 38) = v2 := ⟨_, rfl⟩
        obtain ⟨g2, hg2⟩ : ∃ g2, v1.heap.size = g2 := ⟨_, rfl⟩
        rw [hv2] at hB2
        have HBk := Lib.hid hB2
        clear hal hBk hB2 hgrk HFR HXj HOj HBj
        go_wp2_with fail
        clear hv2 hg2
        obtain ⟨V, hV⟩ : ∃ V, V = v2.drew := ⟨_, rfl⟩
        have HDV := Lib.hid (show Below v2.heap.size v2 V by rw [hV]; exact (Below.refl _ _).drew)
        refine wp_region_held_drew (S := fun W => Below v2.heap.size v2 W) (by kernel_rfl) (by rw [← hV]; exact HDV.out) (fun hHeld => ?_)
        rw [← hV] at hHeld ⊢
        clear hV
        refine wpAnyH_take (i := 0) (oi := ?tko18) (v := ?tkv18) ?tkh18 (by kernel_rfl) (by kernel_rfl) (by kernel_rfl) ?tkq18 ?tky18 hHeld ?tkr18
        case tkh18 => (simp only [List.getElem?_toArray, List.getElem?_cons_zero]; rfl)
        case tkq18 => exact fun _ _ _ h => h
        case tky18 => exact Or.inl ⟨by rfl, by intro wSw hSw; (try dsimp only at hSw); go_simp; try with_reducible rfl⟩
        try simp only [Act.put, List.setIfInBounds_toArray, List.set_cons_zero, List.set_cons_succ]
        refine wpAnyH_take (i := 1) (oi := ?tko19) (v := ?tkv19) ?tkh19 (by kernel_rfl) (by kernel_rfl) (by kernel_rfl) ?tkq19 ?tky19 hHeld ?tkr19
        case tkh19 => (simp only [List.getElem?_toArray, List.getElem?_cons_succ, List.getElem?_cons_zero]; rfl)
        case tkq19 => exact fun _ _ _ h => h
        case tky19 => exact Or.inl ⟨by rfl, by intro wSw hSw; (try dsimp only at hSw); go_simp; try with_reducible rfl⟩
        try simp only [Act.put, List.setIfInBounds_toArray, List.set_cons_zero, List.set_cons_succ]
        refine wpAnyH_take (i := 2) (oi := ?tko20) (v := ?tkv20) ?tkh20 (by kernel_rfl) (by kernel_rfl) (by kernel_rfl) ?tkq20 ?tky20 hHeld ?tkr20
        case tkh20 => (simp only [List.getElem?_toArray, List.getElem?_cons_succ, List.getElem?_cons_zero]; rfl)
        case tkq20 => exact fun _ _ _ h => h
        case tky20 => exact Or.inl ⟨by rfl, by intro wSw hSw; (try dsimp only at hSw); go_simp; try with_reducible rfl⟩
        try simp only [Act.put, List.setIfInBounds_toArray, List.set_cons_zero, List.set_cons_succ]
        refine wpAnyH_take (i := 3) (oi := ?tko21) (v := ?tkv21) ?tkh21 (by kernel_rfl) (by kernel_rfl) (by kernel_rfl) ?tkq21 ?tky21 hHeld ?tkr21
        case tkh21 => (simp only [List.getElem?_toArray, List.getElem?_cons_succ, List.getElem?_cons_zero]; rfl)
        case tkq21 => exact fun _ _ _ h => h
        case tky21 => exact Or.inl ⟨by rfl, by intro wSw hSw; (try dsimp only at hSw); go_simp; try with_reducible rfl⟩
        try simp only [Act.put, List.setIfInBounds_toArray, List.set_cons_zero, List.set_cons_succ]
        refine wpAnyH_take (i := 4) (oi := ?tko22) (v := ?tkv22) ?tkh22 (by kernel_rfl) (by kernel_rfl) (by kernel_rfl) ?tkq22 ?tky22 hHeld ?tkr22
        case tkh22 => (simp only [List.getElem?_toArray, List.getElem?_cons_succ, List.getElem?_cons_zero]; rfl)
        case tkq22 => exact fun _ _ _ h => h
        case tky22 => exact Or.inl ⟨by rfl, by intro wSw hSw; (try dsimp only at hSw); go_simp; try with_reducible rfl⟩
        try simp only [Act.put, List.setIfInBounds_toArray, List.set_cons_zero, List.set_cons_succ]
        refine wpAnyH_take (i := 5) (oi := ?tko23) (v := ?tkv23) ?tkh23 (by kernel_rfl) (by kernel_rfl) (by kernel_rfl) ?tkq23 ?tky23 hHeld ?tkr23
        case tkh23 => (simp only [List.getElem?_toArray, List.getElem?_cons_succ, List.getElem?_cons_zero]; rfl)
        case tkq23 => exact fun _ _ _ h => h
        case tky23 => exact Or.inl ⟨by rfl, by intro wSw hSw; (try dsimp only at hSw); go_simp; try with_reducible rfl⟩
        try simp only [Act.put, List.setIfInBounds_toArray, List.set_cons_zero, List.set_cons_succ]
        refine wpAnyH_take (i := 6) (oi := ?tko24) (v := ?tkv24) ?tkh24 (by kernel_rfl) (by kernel_rfl) (by kernel_rfl) ?tkq24 ?tky24 hHeld ?tkr24
        case tkh24 => (simp only [List.getElem?_toArray, List.getElem?_cons_succ, List.getElem?_cons_zero]; rfl)
        case tkq24 => exact fun _ _ _ h => h
        case tky24 => exact Or.inl ⟨by rfl, by intro wSw hSw; (try dsimp only at hSw); go_simp; try with_reducible rfl⟩
        try simp only [Act.put, List.setIfInBounds_toArray, List.set_cons_zero, List.set_cons_succ]
        refine wpAnyH_take (i := 7) (oi := ?tko25) (v := ?tkv25) ?tkh25 (by kernel_rfl) (by kernel_rfl) (by kernel_rfl) ?tkq25 ?tky25 hHeld ?tkr25
        case tkh25 => (simp only [List.getElem?_toArray, List.getElem?_cons_succ, List.getElem?_cons_zero]; rfl)
        case tkq25 => exact fun _ _ _ h => h
        case tky25 => exact Or.inl ⟨by rfl, by intro wSw hSw; (try dsimp only at hSw); go_simp; try with_reducible rfl⟩
        try simp only [Act.put, List.setIfInBounds_toArray, List.set_cons_zero, List.set_cons_succ]
        refine wpAnyH_take (i := 8) (oi := ?tko26) (v := ?tkv26) ?tkh26 (by kernel_rfl) (by kernel_rfl) (by kernel_rfl) ?tkq26 ?tky26 hHeld ?tkr26
        case tkh26 => (simp only [List.getElem?_toArray, List.getElem?_cons_succ, List.getElem?_cons_zero]; rfl)
        case tkq26 => exact fun _ _ _ h => h
        case tky26 => exact Or.inl ⟨by rfl, by intro wSw hSw; (try dsimp only at hSw); go_simp; try with_reducible rfl⟩
        try simp only [Act.put, List.setIfInBounds_toArray, List.set_cons_zero, List.set_cons_succ]
        refine wpAnyH_take (i := 9) (oi := ?tko27) (v := ?tkv27) ?tkh27 (by kernel_rfl) (by kernel_rfl) (by kernel_rfl) ?tkq27 ?tky27 hHeld ?tkr27
        case tkh27 => (simp only [List.getElem?_toArray, List.getElem?_cons_succ, List.getElem?_cons_zero]; rfl)
        case tkq27 => exact fun _ _ _ h => h
        case tky27 => exact Or.inl ⟨by rfl, by intro wSw hSw; (try dsimp only at hSw); go_simp; try with_reducible rfl⟩
        try simp only [Act.put, List.setIfInBounds_toArray, List.set_cons_zero, List.set_cons_succ]
        refine Skips.skips (by kernel_rfl) (fun _ _ _ _ _ h => h) hHeld [10, 11, 12, 13, 14, 15, 16, 17, 18, 19, 20, 21, 22, 23, 24, 25, 26, 27] _ 15 _ _ (by kernel_rfl) ?tkk28 ?tkr28
        case tkk28 => kernel_rfl
        simp only [Skips.skipAct, Skips.skipListed, List.getElem?_toArray, List.getElem?_cons_succ, List.getElem?_cons_zero, Act.put, List.setIfInBounds_toArray, List.set_cons_zero, List.set_cons_succ]
        refine wpAnyH_take (i := 28) (oi := ?tko29) (v := ?tkv29) ?tkh29 (by kernel_rfl) (by kernel_rfl) (by kernel_rfl) ?tkq29 ?tky29 hHeld ?tkr29
        case tkh29 => (simp only [List.getElem?_toArray, List.getElem?_cons_succ, List.getElem?_cons_zero]; rfl)
        case tkq29 => exact fun _ _ _ h => h
        case tky29 => exact Or.inl ⟨by rfl, by intro wSw hSw; (try dsimp only at hSw); go_simp; try with_reducible rfl⟩
        try simp only [Act.put, List.setIfInBounds_toArray, List.set_cons_zero, List.set_cons_succ]
        refine wpAnyH_take (i := 29) (oi := ?tko30) (v := ?tkv30) ?tkh30 (by kernel_rfl) (by kernel_rfl) (by kernel_rfl) ?tkq30 ?tky30 hHeld ?tkr30
        case tkh30 => (simp only [List.getElem?_toArray, List.getElem?_cons_succ, List.getElem?_cons_zero]; rfl)
        case tkq30 => exact fun _ _ _ h => h
        case tky30 => exact Or.inl ⟨by rfl, by intro wSw hSw; (try dsimp only at hSw); go_simp; try with_reducible rfl⟩
        try simp only [Act.put, List.setIfInBounds_toArray, List.set_cons_zero, List.set_cons_succ]
        refine wpAnyH_take (i := 30) (oi := ?tko31) (v := ?tkv31) ?tkh31 (by kernel_rfl) (by kernel_rfl) (by kernel_rfl) ?tkq31 ?tky31 hHeld ?tkr31
        case tkh31 => (simp only [List.getElem?_toArray, List.getElem?_cons_succ, List.getElem?_cons_zero]; rfl)
        case tkq31 => exact fun _ _ _ h => h
        case tky31 => exact Or.inl ⟨by rfl, by intro wSw hSw; (try dsimp only at hSw); go_simp; try with_reducible rfl⟩
        try simp only [Act.put, List.setIfInBounds_toArray, List.set_cons_zero, List.set_cons_succ]
        refine wpAnyH_take (i := 31) (oi := ?tko32) (v := ?tkv32) ?tkh32 (by kernel_rfl) (by kernel_rfl) (by kernel_rfl) ?tkq32 ?tky32 hHeld ?tkr32
        case tkh32 => (simp only [List.getElem?_toArray, List.getElem?_cons_succ, List.getElem?_cons_zero]; rfl)
        case tkq32 => exact fun _ _ _ h => h
        case tky32 => exact Or.inl ⟨by rfl, by intro wSw hSw; (try dsimp only at hSw); go_simp; try with_reducible rfl⟩
        try simp only [Act.put, List.setIfInBounds_toArray, List.set_cons_zero, List.set_cons_succ]
        refine wpAnyH_take (i := 32) (oi := ?tko33) (v := ?tkv33) ?tkh33 (by kernel_rfl) (by kernel_rfl) (by kernel_rfl) ?tkq33 ?tky33 hHeld ?tkr33
        case tkh33 => (simp only [List.getElem?_toArray, List.getElem?_cons_succ, List.getElem?_cons_zero]; rfl)
        case tkq33 => exact fun _ _ _ h => h
        case tky33 => exact Or.inl ⟨by rfl, by intro wSw hSw; (try dsimp only at hSw); go_simp; try with_reducible rfl⟩
        try simp only [Act.put, List.setIfInBounds_toArray, List.set_cons_zero, List.set_cons_succ]
        refine wpAnyH_take (i := 33) (oi := ?tko34) (v := ?tkv34) ?tkh34 (by kernel_rfl) (by kernel_rfl) (by kernel_rfl) ?tkq34 ?tky34 hHeld ?tkr34
        case tkh34 => (simp only [List.getElem?_toArray, List.getElem?_cons_succ, List.getElem?_cons_zero]; rfl)
        case tkq34 => exact fun _ _ _ h => h
        case tky34 => exact Or.inl ⟨by rfl, by intro wSw hSw; (try dsimp only at hSw); go_simp; try with_reducible rfl⟩
        try simp only [Act.put, List.setIfInBounds_toArray, List.set_cons_zero, List.set_cons_succ]
        refine Skips.skips (by kernel_rfl) (fun _ _ _ _ _ h => h) hHeld [34, 35] _ 7 _ _ (by kernel_rfl) ?tkk35 ?tkr35
        case tkk35 => kernel_rfl
        simp only [Skips.skipAct, Skips.skipListed, List.getElem?_toArray, List.getElem?_cons_succ, List.getElem?_cons_zero, Act.put, List.setIfInBounds_toArray, List.set_cons_zero, List.set_cons_succ]
        refine wpAnyH_take (i := 36) (oi := ?tko36) (v := ?tkv36) ?tkh36 (by kernel_rfl) (by kernel_rfl) (by kernel_rfl) ?tkq36 ?tky36 hHeld ?tkr36
        case tkh36 => (simp only [List.getElem?_toArray, List.getElem?_cons_succ, List.getElem?_cons_zero]; rfl)
        case tkq36 => exact fun _ _ _ h => h
        case tky36 => exact Or.inl ⟨by rfl, by intro wSw hSw; (try dsimp only at hSw); go_simp; try with_reducible rfl⟩
        try simp only [Act.put, List.setIfInBounds_toArray, List.set_cons_zero, List.set_cons_succ]
        refine wpAnyH_take (i := 37) (oi := ?tko37) (v := ?tkv37) ?tkh37 (by kernel_rfl) (by kernel_rfl) (by kernel_rfl) ?tkq37 ?tky37 hHeld ?tkr37
        case tkh37 => (simp only [List.getElem?_toArray, List.getElem?_cons_succ, List.getElem?_cons_zero]; rfl)
        case tkq37 => exact fun _ _ _ h => h
        case tky37 => exact Or.inl ⟨by rfl, by intro wSw hSw; (try dsimp only at hSw); go_simp; try with_reducible rfl⟩
        try simp only [Act.put, List.setIfInBounds_toArray, List.set_cons_zero, List.set_cons_succ]
        refine Skips.skips (by kernel_rfl) (fun _ _ _ _ _ h => h) hHeld [38, 39, 40] _ 2 _ _ (by kernel_rfl) ?tkk38 ?tkr38
        case tkk38 => kernel_rfl
        simp only [Skips.skipAct, Skips.skipListed, List.getElem?_toArray, List.getElem?_cons_succ, List.getElem?_cons_zero, Act.put, List.setIfInBounds_toArray, List.set_cons_zero, List.set_cons_succ]
        refine wpAnyH_take (i := 41) (oi := ?tko39) (v := ?tkv39) ?tkh39 (by kernel_rfl) (by kernel_rfl) (by kernel_rfl) ?tkq39 ?tky39 hHeld ?tkr39
        case tkh39 => (simp only [List.getElem?_toArray, List.getElem?_cons_succ, List.getElem?_cons_zero]; rfl)
        case tkq39 => exact fun _ _ _ h => h
        case tky39 => exact Or.inl ⟨by rfl, by intro wSw hSw; (try dsimp only at hSw); go_simp; try with_reducible rfl⟩
        try simp only [Act.put, List.setIfInBounds_toArray, List.set_cons_zero, List.set_cons_succ]
        refine wpAnyH_take (i := 42) (oi := ?tko40) (v := ?tkv40) ?tkh40 (by kernel_rfl) (by kernel_rfl) (by kernel_rfl) ?tkq40 ?tky40 hHeld ?tkr40
        case tkh40 => (simp only [List.getElem?_toArray, List.getElem?_cons_succ, List.getElem?_cons_zero]; rfl)
        case tkq40 => exact fun _ _ _ h => h
        case tky40 => exact Or.inl ⟨by rfl, by intro wSw hSw; (try dsimp only at hSw); go_simp; try with_reducible rfl⟩
        try simp only [Act.put, List.setIfInBounds_toArray, List.set_cons_zero, List.set_cons_succ]
        refine wpAnyH_done (by kernel_rfl) ?_ _
        clear hHeld
        go_wp2_with fail
        go_roundw
        case rel => exact ⟨i + 1, by omega, by go_num, HBk.out.trans (HDV.out.mono HBk.out.size)⟩
        case measure => simp [intOf]; omega
      · have HFR := Lib.hid FR
        clear FR
        go_wp2_with fail
        refine HFR.out.mono ?_
        rintro e v1 ⟨K, kcc, Nj', rfl, -, -, -, hgrk, -⟩
        have hal := (Below.refl _ v1).alloc (Nat.le_refl _) (.cells #[.int .u64 sv.time, .slice K m3 kcc] 38)
        have hBk := HBj.out.trans (below_grown hgrk HBj.out.size hg3)
        have hB2 := hBk.trans (hal.mono hBk.size)
        have hx2 := Blk.new v1 #[.int .u64 sv.time, .slice K m3 kcc] 38 [.int .u64 sv.time, .slice K m3 kcc] rfl
        have hXk := (HXj.out.grown hgrk (fun e => by injection e; omega)).later hal
        have hOk := (tr_grown HOj.out HNB.out hgrk hg4).below hal
        obtain ⟨b', off, K9, c9, hEB, y0, -, -⟩ := hOk.evs.kids (k := j - 1) (by rw [HUE.out]; omega)
        subst hEB
        obtain ⟨tl, htl⟩ : ∃ tl, (U.events.getD (j - 1) noEv).time = tl := ⟨_, rfl⟩
        rw [htl] at y0 hlt
        have hlt2 : ¬ (sv.time ≥ tl) := by omega
        have hlt3 : decide (tl ≤ sv.time) = false := decide_eq_false (by omega)
        have hlt4 : decide (sv.time ≥ tl) = false := decide_eq_false (by omega)
        have hj0 : ¬ ((j : Int) = 0) := by omega
        have hj1 : ((j : Int) == 0) = false := by simp; omega
        have hjw : IntKind.i64.wrap ((j : Int) - 1) = ((j - 1 : Nat) : Int) := by rw [show ((j - 1 : Nat) : Int) = (j : Int) - 1 by omega]; exact IntWalk.i64_in _ (by omega)
        have hjb : ((j - 1 : Nat) : Int) < (j : Int) := by omega
        obtain ⟨v2, hv2⟩ : ∃ v2, v1.alloc (.cells #[.int .u64 sv.time, .slice K m3 kcc] 38) = v2 := ⟨_, rfl⟩
        obtain ⟨g2, hg2⟩ : ∃ g2, v1.heap.size = g2 := ⟨_, rfl⟩
        rw [hv2] at hB2 hx2 hXk y0
        rw [hg2] at hx2
        have hX2 := Lib.hid hx2
        have hXK := Lib.hid hXk
        have HY0 := Lib.hid y0
        clear hx2 hXk hOk y0 htl
        have HBk := Lib.hid hB2
        clear hal hBk hB2 hgrk HFR HXj HOj HBj
        go_wp2_with fail
        clear hv2 hg2
        obtain ⟨V, hV⟩ : ∃ V, V = v2.drew := ⟨_, rfl⟩
        have HDV := Lib.hid (show Below v2.heap.size v2 V by rw [hV]; exact (Below.refl _ _).drew)
        refine wp_region_held_drew (S := fun W => W.cell? ⟨g2, 0, none⟩ = some (.int .u64 sv.time) ∧ W.cell? ⟨g5, 1, none⟩ = some (.slice (some ⟨b', off, none⟩) j fc) ∧ W.cell? ⟨b', off + (j - 1) * 2, none⟩ = some (.int .u64 tl)) (by kernel_rfl) (by rw [← hV]; exact ⟨(hX2.out.later HDV.out).cell 0 rfl, (hXK.out.later HDV.out).cell 1 rfl, below_cell HDV.out HY0.out⟩) (fun hHeld => ?_)
        rw [← hV] at hHeld ⊢
        clear hV
        refine wpAnyH_take (i := 0) (oi := ?tko41) (v := ?tkv41) ?tkh41 (by kernel_rfl) (by kernel_rfl) (by kernel_rfl) ?tkq41 ?tky41 hHeld ?tkr41
        case tkh41 => (simp only [List.getElem?_toArray, List.getElem?_cons_zero]; rfl)
        case tkq41 => exact fun _ _ _ h => h
        case tky41 => exact Or.inl ⟨by rfl, by intro wSw hSw; (try dsimp only at hSw); go_simp; try with_reducible rfl⟩
        try simp only [Act.put, List.setIfInBounds_toArray, List.set_cons_zero, List.set_cons_succ]
        refine wpAnyH_take (i := 1) (oi := ?tko42) (v := ?tkv42) ?tkh42 (by kernel_rfl) (by kernel_rfl) (by kernel_rfl) ?tkq42 ?tky42 hHeld ?tkr42
        case tkh42 => (simp only [List.getElem?_toArray, List.getElem?_cons_succ, List.getElem?_cons_zero]; rfl)
        case tkq42 => exact fun _ _ _ h => h
        case tky42 => exact Or.inl ⟨by rfl, by intro wSw hSw; (try dsimp only at hSw); go_simp; try with_reducible rfl⟩
        try simp only [Act.put, List.setIfInBounds_toArray, List.set_cons_zero, List.set_cons_succ]
        refine wpAnyH_take (i := 2) (oi := ?tko43) (v := ?tkv43) ?tkh43 (by kernel_rfl) (by kernel_rfl) (by kernel_rfl) ?tkq43 ?tky43 hHeld ?tkr43
        case tkh43 => (simp only [List.getElem?_toArray, List.getElem?_cons_succ, List.getElem?_cons_zero]; rfl)
        case tkq43 => exact fun _ _ _ h => h
        case tky43 => exact Or.inl ⟨by rfl, by intro wSw hSw; (try dsimp only at hSw); go_simp; try with_reducible rfl⟩
        try simp only [Act.put, List.setIfInBounds_toArray, List.set_cons_zero, List.set_cons_succ]
        refine Skips.skips (by kernel_rfl) (fun _ _ _ _ _ h => h) hHeld [3, 4] _ 38 _ _ (by kernel_rfl) ?tkk44 ?tkr44
        case tkk44 => kernel_rfl
        simp only [Skips.skipAct, Skips.skipListed, List.getElem?_toArray, List.getElem?_cons_succ, List.getElem?_cons_zero, Act.put, List.setIfInBounds_toArray, List.set_cons_zero, List.set_cons_succ]
        refine wpAnyH_take (i := 5) (oi := ?tko45) (v := ?tkv45) ?tkh45 (by kernel_rfl) (by kernel_rfl) (by kernel_rfl) ?tkq45 ?tky45 hHeld ?tkr45
        case tkh45 => (simp only [List.getElem?_toArray, List.getElem?_cons_succ, List.getElem?_cons_zero]; rfl)
        case tkq45 => exact fun _ _ _ h => h
        case tky45 => exact Or.inl ⟨by rfl, by intro wSw hSw; (try dsimp only at hSw); go_simp; try with_reducible rfl⟩
        try simp only [Act.put, List.setIfInBounds_toArray, List.set_cons_zero, List.set_cons_succ]
        refine wpAnyH_take (i := 6) (oi := ?tko46) (v := ?tkv46) ?tkh46 (by kernel_rfl) (by kernel_rfl) (by kernel_rfl) ?tkq46 ?tky46 hHeld ?tkr46
        case tkh46 => (simp only [List.getElem?_toArray, List.getElem?_cons_succ, List.getElem?_cons_zero]; rfl)
        case tkq46 => exact fun _ _ _ h => h
        case tky46 => exact Or.inl ⟨by rfl, by intro wSw hSw; (try dsimp only at hSw); go_simp; try with_reducible rfl⟩
        try simp only [Act.put, List.setIfInBounds_toArray, List.set_cons_zero, List.set_cons_succ]
        refine wpAnyH_take (i := 7) (oi := ?tko47) (v := ?tkv47) ?tkh47 (by kernel_rfl) (by kernel_rfl) (by kernel_rfl) ?tkq47 ?tky47 hHeld ?tkr47
        case tkh47 => (simp only [List.getElem?_toArray, List.getElem?_cons_succ, List.getElem?_cons_zero]; rfl)
        case tkq47 => exact fun _ _ _ h => h
        case tky47 => exact Or.inl ⟨by rfl, by intro wSw hSw; (try dsimp only at hSw); go_simp; try with_reducible rfl⟩
        try simp only [Act.put, List.setIfInBounds_toArray, List.set_cons_zero, List.set_cons_succ]
        refine wpAnyH_take (i := 8) (oi := ?tko48) (v := ?tkv48) ?tkh48 (by kernel_rfl) (by kernel_rfl) (by kernel_rfl) ?tkq48 ?tky48 hHeld ?tkr48
        case tkh48 => (simp only [List.getElem?_toArray, List.getElem?_cons_succ, List.getElem?_cons_zero]; rfl)
        case tkq48 => exact fun _ _ _ h => h
        case tky48 => exact Or.inl ⟨by rfl, by intro wSw hSw; (try dsimp only at hSw); go_simp; try with_reducible rfl⟩
        try simp only [Act.put, List.setIfInBounds_toArray, List.set_cons_zero, List.set_cons_succ]
        refine wpAnyH_take (i := 9) (oi := ?tko49) (v := ?tkv49) ?tkh49 (by kernel_rfl) (by kernel_rfl) (by kernel_rfl) ?tkq49 ?tky49 hHeld ?tkr49
        case tkh49 => (simp only [List.getElem?_toArray, List.getElem?_cons_succ, List.getElem?_cons_zero]; rfl)
        case tkq49 => exact fun _ _ _ h => h
        case tky49 => exact Or.inl ⟨by rfl, by intro wSw hSw; (try dsimp only at hSw); go_simp; try with_reducible rfl⟩
        try simp only [Act.put, List.setIfInBounds_toArray, List.set_cons_zero, List.set_cons_succ]
        refine wpAnyH_take (i := 10) (oi := ?tko50) (v := ?tkv50) ?tkh50 (by kernel_rfl) (by kernel_rfl) (by kernel_rfl) ?tkq50 ?tky50 hHeld ?tkr50
        case tkh50 => (simp only [List.getElem?_toArray, List.getElem?_cons_succ, List.getElem?_cons_zero]; rfl)
        case tkq50 => exact fun _ _ _ h => h
        case tky50 => exact Or.inl ⟨by rfl, by intro wSw hSw; (try dsimp only at hSw); go_simp; try with_reducible rfl⟩
        try simp only [Act.put, List.setIfInBounds_toArray, List.set_cons_zero, List.set_cons_succ]
        refine wpAnyH_take (i := 11) (oi := ?tko51) (v := ?tkv51) ?tkh51 (by kernel_rfl) (by kernel_rfl) (by kernel_rfl) ?tkq51 ?tky51 hHeld ?tkr51
        case tkh51 => (simp only [List.getElem?_toArray, List.getElem?_cons_succ, List.getElem?_cons_zero]; rfl)
        case tkq51 => exact fun _ _ _ h => h
        case tky51 => exact Or.inl ⟨by rfl, by intro wSw hSw; (try dsimp only at hSw); go_simp; try with_reducible rfl⟩
        try simp only [Act.put, List.setIfInBounds_toArray, List.set_cons_zero, List.set_cons_succ]
        refine wpAnyH_take (i := 12) (oi := ?tko52) (v := ?tkv52) ?tkh52 (by kernel_rfl) (by kernel_rfl) (by kernel_rfl) ?tkq52 ?tky52 hHeld ?tkr52
        case tkh52 => (simp only [List.getElem?_toArray, List.getElem?_cons_succ, List.getElem?_cons_zero]; rfl)
        case tkq52 => exact fun _ _ _ h => h
        case tky52 => exact Or.inl ⟨by rfl, by intro wSw hSw; (try dsimp only at hSw); go_simp; try with_reducible rfl⟩
        try simp only [Act.put, List.setIfInBounds_toArray, List.set_cons_zero, List.set_cons_succ]
        refine wpAnyH_take (i := 13) (oi := ?tko53) (v := ?tkv53) ?tkh53 (by kernel_rfl) (by kernel_rfl) (by kernel_rfl) ?tkq53 ?tky53 hHeld ?tkr53
        case tkh53 => (simp only [List.getElem?_toArray, List.getElem?_cons_succ, List.getElem?_cons_zero]; rfl)
        case tkq53 => exact fun _ _ _ h => h
        case tky53 => exact Or.inl ⟨by rfl, by intro wSw hSw; (try dsimp only at hSw); go_simp; try with_reducible rfl⟩
        try simp only [Act.put, List.setIfInBounds_toArray, List.set_cons_zero, List.set_cons_succ]
        refine wpAnyH_take (i := 14) (oi := ?tko54) (v := ?tkv54) ?tkh54 (by kernel_rfl) (by kernel_rfl) (by kernel_rfl) ?tkq54 ?tky54 hHeld ?tkr54
        case tkh54 => (simp only [List.getElem?_toArray, List.getElem?_cons_succ, List.getElem?_cons_zero]; rfl)
        case tkq54 => exact fun _ _ _ h => h
        case tky54 => exact Or.inl ⟨by rfl, by intro wSw hSw; (try dsimp only at hSw); go_simp; try with_reducible rfl⟩
        try simp only [Act.put, List.setIfInBounds_toArray, List.set_cons_zero, List.set_cons_succ]
        refine wpAnyH_take (i := 15) (oi := ?tko55) (v := ?tkv55) ?tkh55 (by kernel_rfl) (by kernel_rfl) (by kernel_rfl) ?tkq55 ?tky55 hHeld ?tkr55
        case tkh55 => (simp only [List.getElem?_toArray, List.getElem?_cons_succ, List.getElem?_cons_zero]; rfl)
        case tkq55 => exact fun _ _ _ h => h
        case tky55 => exact Or.inl ⟨by rfl, by intro wSw hSw; (try dsimp only at hSw); go_simp; try with_reducible rfl⟩
        try simp only [Act.put, List.setIfInBounds_toArray, List.set_cons_zero, List.set_cons_succ]
        refine wpAnyH_take (i := 16) (oi := ?tko56) (v := ?tkv56) ?tkh56 (by kernel_rfl) (by kernel_rfl) (by kernel_rfl) ?tkq56 ?tky56 hHeld ?tkr56
        case tkh56 => (simp only [List.getElem?_toArray, List.getElem?_cons_succ, List.getElem?_cons_zero]; rfl)
        case tkq56 => exact fun _ _ _ h => h
        case tky56 => exact Or.inl ⟨by rfl, by intro wSw hSw; (try dsimp only at hSw); go_simp; try with_reducible rfl⟩
        try simp only [Act.put, List.setIfInBounds_toArray, List.set_cons_zero, List.set_cons_succ]
        refine wpAnyH_take (i := 17) (oi := ?tko57) (v := ?tkv57) ?tkh57 (by kernel_rfl) (by kernel_rfl) (by kernel_rfl) ?tkq57 ?tky57 hHeld ?tkr57
        case tkh57 => (simp only [List.getElem?_toArray, List.getElem?_cons_succ, List.getElem?_cons_zero]; rfl)
        case tkq57 => exact fun _ _ _ h => h
        case tky57 => exact Or.inl ⟨by rfl, by intro wSw hSw; (try dsimp only at hSw); go_simp; try with_reducible rfl⟩
        try simp only [Act.put, List.setIfInBounds_toArray, List.set_cons_zero, List.set_cons_succ]
        refine wpAnyH_take (i := 18) (oi := ?tko58) (v := ?tkv58) ?tkh58 (by kernel_rfl) (by kernel_rfl) (by kernel_rfl) ?tkq58 ?tky58 hHeld ?tkr58
        case tkh58 => (simp only [List.getElem?_toArray, List.getElem?_cons_succ, List.getElem?_cons_zero]; rfl)
        case tkq58 => exact fun _ _ _ h => h
        case tky58 => exact Or.inl ⟨by rfl, by intro wSw hSw; (try dsimp only at hSw); go_simp; try with_reducible rfl⟩
        try simp only [Act.put, List.setIfInBounds_toArray, List.set_cons_zero, List.set_cons_succ]
        refine wpAnyH_take (i := 19) (oi := ?tko59) (v := ?tkv59) ?tkh59 (by kernel_rfl) (by kernel_rfl) (by kernel_rfl) ?tkq59 ?tky59 hHeld ?tkr59
        case tkh59 => (simp only [List.getElem?_toArray, List.getElem?_cons_succ, List.getElem?_cons_zero]; rfl)
        case tkq59 => exact fun _ _ _ h => h
        case tky59 => exact Or.inl ⟨by rfl, by intro wSw hSw; (try dsimp only at hSw); go_simp; try with_reducible rfl⟩
        try simp only [Act.put, List.setIfInBounds_toArray, List.set_cons_zero, List.set_cons_succ]
        refine wpAnyH_take (i := 20) (oi := ?tko60) (v := ?tkv60) ?tkh60 (by kernel_rfl) (by kernel_rfl) (by kernel_rfl) ?tkq60 ?tky60 hHeld ?tkr60
        case tkh60 => (simp only [List.getElem?_toArray, List.getElem?_cons_succ, List.getElem?_cons_zero]; rfl)
        case tkq60 => exact fun _ _ _ h => h
        case tky60 => exact Or.inl ⟨by rfl, by intro wSw hSw; (try dsimp only at hSw); go_simp; try with_reducible rfl⟩
        try simp only [Act.put, List.setIfInBounds_toArray, List.set_cons_zero, List.set_cons_succ]
        refine wpAnyH_take (i := 21) (oi := ?tko61) (v := ?tkv61) ?tkh61 (by kernel_rfl) (by kernel_rfl) (by kernel_rfl) ?tkq61 ?tky61 hHeld ?tkr61
        case tkh61 => (simp only [List.getElem?_toArray, List.getElem?_cons_succ, List.getElem?_cons_zero]; rfl)
        case tkq61 => exact fun _ _ _ h => h
        case tky61 => exact Or.inl ⟨by rfl, by intro wSw hSw; (try dsimp only at hSw); go_simp; try with_reducible rfl⟩
        try simp only [Act.put, List.setIfInBounds_toArray, List.set_cons_zero, List.set_cons_succ]
        refine wpAnyH_take (i := 22) (oi := ?tko62) (v := ?tkv62) ?tkh62 (by kernel_rfl) (by kernel_rfl) (by kernel_rfl) ?tkq62 ?tky62 hHeld ?tkr62
        case tkh62 => (simp only [List.getElem?_toArray, List.getElem?_cons_succ, List.getElem?_cons_zero]; rfl)
        case tkq62 => exact fun _ _ _ h => h
        case tky62 => exact Or.inl ⟨by rfl, by intro wSw hSw; (try dsimp only at hSw); go_simp; try with_reducible rfl⟩
        try simp only [Act.put, List.setIfInBounds_toArray, List.set_cons_zero, List.set_cons_succ]
        refine wpAnyH_take (i := 23) (oi := ?tko63) (v := ?tkv63) ?tkh63 (by kernel_rfl) (by kernel_rfl) (by kernel_rfl) ?tkq63 ?tky63 hHeld ?tkr63
        case tkh63 => (simp only [List.getElem?_toArray, List.getElem?_cons_succ, List.getElem?_cons_zero]; rfl)
        case tkq63 => exact fun _ _ _ h => h
        case tky63 => exact Or.inl ⟨by rfl, by intro wSw hSw; (try dsimp only at hSw); go_simp; try with_reducible rfl⟩
        try simp only [Act.put, List.setIfInBounds_toArray, List.set_cons_zero, List.set_cons_succ]
        refine wpAnyH_take (i := 24) (oi := ?tko64) (v := ?tkv64) ?tkh64 (by kernel_rfl) (by kernel_rfl) (by kernel_rfl) ?tkq64 ?tky64 hHeld ?tkr64
        case tkh64 => (simp only [List.getElem?_toArray, List.getElem?_cons_succ, List.getElem?_cons_zero]; rfl)
        case tkq64 => exact fun _ _ _ h => h
        case tky64 => exact Or.inl ⟨by rfl, by intro wSw hSw; (try dsimp only at hSw); go_simp; try with_reducible rfl⟩
        try simp only [Act.put, List.setIfInBounds_toArray, List.set_cons_zero, List.set_cons_succ]
        refine wpAnyH_take (i := 25) (oi := ?tko65) (v := ?tkv65) ?tkh65 (by kernel_rfl) (by kernel_rfl) (by kernel_rfl) ?tkq65 ?tky65 hHeld ?tkr65
        case tkh65 => (simp only [List.getElem?_toArray, List.getElem?_cons_succ, List.getElem?_cons_zero]; rfl)
        case tkq65 => exact fun _ _ _ h => h
        case tky65 => exact Or.inl ⟨by rfl, by intro wSw hSw; (try dsimp only at hSw); go_simp; try with_reducible rfl⟩
        try simp only [Act.put, List.setIfInBounds_toArray, List.set_cons_zero, List.set_cons_succ]
        refine wpAnyH_take (i := 26) (oi := ?tko66) (v := ?tkv66) ?tkh66 (by kernel_rfl) (by kernel_rfl) (by kernel_rfl) ?tkq66 ?tky66 hHeld ?tkr66
        case tkh66 => (simp only [List.getElem?_toArray, List.getElem?_cons_succ, List.getElem?_cons_zero]; rfl)
        case tkq66 => exact fun _ _ _ h => h
        case tky66 => exact Or.inl ⟨by rfl, by intro wSw hSw; (try dsimp only at hSw); go_simp; try with_reducible rfl⟩
        try simp only [Act.put, List.setIfInBounds_toArray, List.set_cons_zero, List.set_cons_succ]
        refine wpAnyH_take (i := 27) (oi := ?tko67) (v := ?tkv67) ?tkh67 (by kernel_rfl) (by kernel_rfl) (by kernel_rfl) ?tkq67 ?tky67 hHeld ?tkr67
        case tkh67 => (simp only [List.getElem?_toArray, List.getElem?_cons_succ, List.getElem?_cons_zero]; rfl)
        case tkq67 => exact fun _ _ _ h => h
        case tky67 => exact Or.inl ⟨by rfl, by intro wSw hSw; (try dsimp only at hSw); go_simp; try with_reducible rfl⟩
        try simp only [Act.put, List.setIfInBounds_toArray, List.set_cons_zero, List.set_cons_succ]
        refine wpAnyH_take (i := 28) (oi := ?tko68) (v := ?tkv68) ?tkh68 (by kernel_rfl) (by kernel_rfl) (by kernel_rfl) ?tkq68 ?tky68 hHeld ?tkr68
        case tkh68 => (simp only [List.getElem?_toArray, List.getElem?_cons_succ, List.getElem?_cons_zero]; rfl)
        case tkq68 => exact fun _ _ _ h => h
        case tky68 => exact Or.inl ⟨by rfl, by intro wSw hSw; (try dsimp only at hSw); go_simp; try with_reducible rfl⟩
        try simp only [Act.put, List.setIfInBounds_toArray, List.set_cons_zero, List.set_cons_succ]
        refine wpAnyH_take (i := 29) (oi := ?tko69) (v := ?tkv69) ?tkh69 (by kernel_rfl) (by kernel_rfl) (by kernel_rfl) ?tkq69 ?tky69 hHeld ?tkr69
        case tkh69 => (simp only [List.getElem?_toArray, List.getElem?_cons_succ, List.getElem?_cons_zero]; rfl)
        case tkq69 => exact fun _ _ _ h => h
        case tky69 => exact Or.inl ⟨by rfl, by intro wSw hSw; (try dsimp only at hSw); go_simp; try with_reducible rfl⟩
        try simp only [Act.put, List.setIfInBounds_toArray, List.set_cons_zero, List.set_cons_succ]
        refine wpAnyH_take (i := 30) (oi := ?tko70) (v := ?tkv70) ?tkh70 (by kernel_rfl) (by kernel_rfl) (by kernel_rfl) ?tkq70 ?tky70 hHeld ?tkr70
        case tkh70 => (simp only [List.getElem?_toArray, List.getElem?_cons_succ, List.getElem?_cons_zero]; rfl)
        case tkq70 => exact fun _ _ _ h => h
        case tky70 => exact Or.inl ⟨by rfl, by intro wSw hSw; (try dsimp only at hSw); go_simp; try with_reducible rfl⟩
        try simp only [Act.put, List.setIfInBounds_toArray, List.set_cons_zero, List.set_cons_succ]
        refine wpAnyH_take (i := 31) (oi := ?tko71) (v := ?tkv71) ?tkh71 (by kernel_rfl) (by kernel_rfl) (by kernel_rfl) ?tkq71 ?tky71 hHeld ?tkr71
        case tkh71 => (simp only [List.getElem?_toArray, List.getElem?_cons_succ, List.getElem?_cons_zero]; rfl)
        case tkq71 => exact fun _ _ _ h => h
        case tky71 => exact Or.inl ⟨by rfl, by intro wSw hSw; (try dsimp only at hSw); go_simp; try with_reducible rfl⟩
        try simp only [Act.put, List.setIfInBounds_toArray, List.set_cons_zero, List.set_cons_succ]
        refine wpAnyH_take (i := 32) (oi := ?tko72) (v := ?tkv72) ?tkh72 (by kernel_rfl) (by kernel_rfl) (by kernel_rfl) ?tkq72 ?tky72 hHeld ?tkr72
        case tkh72 => (simp only [List.getElem?_toArray, List.getElem?_cons_succ, List.getElem?_cons_zero]; rfl)
        case tkq72 => exact fun _ _ _ h => h
        case tky72 => exact Or.inl ⟨by rfl, by intro wSw hSw; (try dsimp only at hSw); go_simp; try with_reducible rfl⟩
        try simp only [Act.put, List.setIfInBounds_toArray, List.set_cons_zero, List.set_cons_succ]
        refine wpAnyH_take (i := 33) (oi := ?tko73) (v := ?tkv73) ?tkh73 (by kernel_rfl) (by kernel_rfl) (by kernel_rfl) ?tkq73 ?tky73 hHeld ?tkr73
        case tkh73 => (simp only [List.getElem?_toArray, List.getElem?_cons_succ, List.getElem?_cons_zero]; rfl)
        case tkq73 => exact fun _ _ _ h => h
        case tky73 => exact Or.inl ⟨by rfl, by intro wSw hSw; (try dsimp only at hSw); go_simp; try with_reducible rfl⟩
        try simp only [Act.put, List.setIfInBounds_toArray, List.set_cons_zero, List.set_cons_succ]
        refine wpAnyH_take (i := 34) (oi := ?tko74) (v := ?tkv74) ?tkh74 (by kernel_rfl) (by kernel_rfl) (by kernel_rfl) ?tkq74 ?tky74 hHeld ?tkr74
        case tkh74 => (simp only [List.getElem?_toArray, List.getElem?_cons_succ, List.getElem?_cons_zero]; rfl)
        case tkq74 => exact fun _ _ _ h => h
        case tky74 => exact Or.inl ⟨by rfl, by intro wSw hSw; (try dsimp only at hSw); go_simp; try with_reducible rfl⟩
        try simp only [Act.put, List.setIfInBounds_toArray, List.set_cons_zero, List.set_cons_succ]
        refine wpAnyH_take (i := 35) (oi := ?tko75) (v := ?tkv75) ?tkh75 (by kernel_rfl) (by kernel_rfl) (by kernel_rfl) ?tkq75 ?tky75 hHeld ?tkr75
        case tkh75 => (simp only [List.getElem?_toArray, List.getElem?_cons_succ, List.getElem?_cons_zero]; rfl)
        case tkq75 => exact fun _ _ _ h => h
        case tky75 => exact Or.inl ⟨by rfl, by intro wSw hSw; (try dsimp only at hSw); go_simp; try with_reducible rfl⟩
        try simp only [Act.put, List.setIfInBounds_toArray, List.set_cons_zero, List.set_cons_succ]
        refine wpAnyH_take (i := 36) (oi := ?tko76) (v := ?tkv76) ?tkh76 (by kernel_rfl) (by kernel_rfl) (by kernel_rfl) ?tkq76 ?tky76 hHeld ?tkr76
        case tkh76 => (simp only [List.getElem?_toArray, List.getElem?_cons_succ, List.getElem?_cons_zero]; rfl)
        case tkq76 => exact fun _ _ _ h => h
        case tky76 => exact Or.inl ⟨by rfl, by intro wSw hSw; (try dsimp only at hSw); go_simp; try with_reducible rfl⟩
        try simp only [Act.put, List.setIfInBounds_toArray, List.set_cons_zero, List.set_cons_succ]
        refine wpAnyH_take (i := 37) (oi := ?tko77) (v := ?tkv77) ?tkh77 (by kernel_rfl) (by kernel_rfl) (by kernel_rfl) ?tkq77 ?tky77 hHeld ?tkr77
        case tkh77 => (simp only [List.getElem?_toArray, List.getElem?_cons_succ, List.getElem?_cons_zero]; rfl)
        case tkq77 => exact fun _ _ _ h => h
        case tky77 => exact Or.inl ⟨by rfl, by intro wSw hSw; (try dsimp only at hSw); go_simp; try with_reducible rfl⟩
        try simp only [Act.put, List.setIfInBounds_toArray, List.set_cons_zero, List.set_cons_succ]
        refine Skips.skips (by kernel_rfl) (fun _ _ _ _ _ h => h) hHeld [38, 39, 40] _ 2 _ _ (by kernel_rfl) ?tkk78 ?tkr78
        case tkk78 => kernel_rfl
        simp only [Skips.skipAct, Skips.skipListed, List.getElem?_toArray, List.getElem?_cons_succ, List.getElem?_cons_zero, Act.put, List.setIfInBounds_toArray, List.set_cons_zero, List.set_cons_succ]
        refine wpAnyH_take (i := 41) (oi := ?tko79) (v := ?tkv79) ?tkh79 (by kernel_rfl) (by kernel_rfl) (by kernel_rfl) ?tkq79 ?tky79 hHeld ?tkr79
        case tkh79 => (simp only [List.getElem?_toArray, List.getElem?_cons_succ, List.getElem?_cons_zero]; rfl)
        case tkq79 => exact fun _ _ _ h => h
        case tky79 => exact Or.inl ⟨by rfl, by intro wSw hSw; (try dsimp only at hSw); go_simp; try with_reducible rfl⟩
        try simp only [Act.put, List.setIfInBounds_toArray, List.set_cons_zero, List.set_cons_succ]
        refine wpAnyH_take (i := 42) (oi := ?tko80) (v := ?tkv80) ?tkh80 (by kernel_rfl) (by kernel_rfl) (by kernel_rfl) ?tkq80 ?tky80 hHeld ?tkr80
        case tkh80 => (simp only [List.getElem?_toArray, List.getElem?_cons_succ, List.getElem?_cons_zero]; rfl)
        case tkq80 => exact fun _ _ _ h => h
        case tky80 => exact Or.inl ⟨by rfl, by intro wSw hSw; (try dsimp only at hSw); go_simp; try with_reducible rfl⟩
        try simp only [Act.put, List.setIfInBounds_toArray, List.set_cons_zero, List.set_cons_succ]
        refine wpAnyH_done (by kernel_rfl) ?_ _
        clear hHeld
        go_wp2_with fail
        go_roundw
        case rel => exact ⟨i + 1, by omega, by go_num, HBk.out.trans (HDV.out.mono HBk.out.size)⟩
        case measure => simp [intOf]; omega
      · have HFR := Lib.hid FR
        clear FR
        go_wp2_with fail
        refine HFR.out.mono ?_
        rintro e v1 ⟨K, kcc, Nj', rfl, -, -, -, hgrk, -⟩
        have hal := (Below.refl _ v1).alloc (Nat.le_refl _) (.cells #[.int .u64 sv.time, .slice K m3 kcc] 38)
        have hBk := HBj.out.trans (below_grown hgrk HBj.out.size hg3)
        have hB2 := hBk.trans (hal.mono hBk.size)
        have e0 : ¬ ((se : Int) = 0) := by omega
        have e8 : ¬ ((se : Int) = 8) := by omega
        have e1 : ((se : Int) == 0) = false := by simp; omega
        have e2 : ((se : Int) == 8) = false := by simp; omega
        have e3 : ((se : Int) != 0) = true := by rw [bne, e1]; rfl
        have e4 : ((se : Int) != 8) = true := by rw [bne, e2]; rfl
        obtain ⟨v2, hv2⟩ : ∃ v2, v1.alloc (.cells #[.int .u64 sv.time, .slice K m3 kcc] 38) = v2 := ⟨_, rfl⟩
        obtain ⟨g2, hg2⟩ : ∃ g2, v1.heap.size = g2 := ⟨_, rfl⟩
        rw [hv2] at hB2
        have HBk := Lib.hid hB2
        clear hal hBk hB2 hgrk HFR HXj HOj HBj
        go_wp2_with fail
        clear hv2 hg2
        obtain ⟨V, hV⟩ : ∃ V, V = v2.drew := ⟨_, rfl⟩
        have HDV := Lib.hid (show Below v2.heap.size v2 V by rw [hV]; exact (Below.refl _ _).drew)
        refine wp_region_held_drew (S := fun W => Below v2.heap.size v2 W) (by kernel_rfl) (by rw [← hV]; exact HDV.out) (fun hHeld => ?_)
        rw [← hV] at hHeld ⊢
        clear hV
        refine wpAnyH_take (i := 0) (oi := ?tko81) (v := ?tkv81) ?tkh81 (by kernel_rfl) (by kernel_rfl) (by kernel_rfl) ?tkq81 ?tky81 hHeld ?tkr81
        case tkh81 => (simp only [List.getElem?_toArray, List.getElem?_cons_zero]; rfl)
        case tkq81 => exact fun _ _ _ h => h
        case tky81 => exact Or.inl ⟨by rfl, by intro wSw hSw; (try dsimp only at hSw); go_simp; try with_reducible rfl⟩
        try simp only [Act.put, List.setIfInBounds_toArray, List.set_cons_zero, List.set_cons_succ]
        refine wpAnyH_take (i := 1) (oi := ?tko82) (v := ?tkv82) ?tkh82 (by kernel_rfl) (by kernel_rfl) (by kernel_rfl) ?tkq82 ?tky82 hHeld ?tkr82
        case tkh82 => (simp only [List.getElem?_toArray, List.getElem?_cons_succ, List.getElem?_cons_zero]; rfl)
        case tkq82 => exact fun _ _ _ h => h
        case tky82 => exact Or.inl ⟨by rfl, by intro wSw hSw; (try dsimp only at hSw); go_simp; try with_reducible rfl⟩
        try simp only [Act.put, List.setIfInBounds_toArray, List.set_cons_zero, List.set_cons_succ]
        refine wpAnyH_take (i := 2) (oi := ?tko83) (v := ?tkv83) ?tkh83 (by kernel_rfl) (by kernel_rfl) (by kernel_rfl) ?tkq83 ?tky83 hHeld ?tkr83
        case tkh83 => (simp only [List.getElem?_toArray, List.getElem?_cons_succ, List.getElem?_cons_zero]; rfl)
        case tkq83 => exact fun _ _ _ h => h
        case tky83 => exact Or.inl ⟨by rfl, by intro wSw hSw; (try dsimp only at hSw); go_simp; try with_reducible rfl⟩
        try simp only [Act.put, List.setIfInBounds_toArray, List.set_cons_zero, List.set_cons_succ]
        refine Skips.skips (by kernel_rfl) (fun _ _ _ _ _ h => h) hHeld [3, 4] _ 38 _ _ (by kernel_rfl) ?tkk84 ?tkr84
        case tkk84 => kernel_rfl
        simp only [Skips.skipAct, Skips.skipListed, List.getElem?_toArray, List.getElem?_cons_succ, List.getElem?_cons_zero, Act.put, List.setIfInBounds_toArray, List.set_cons_zero, List.set_cons_succ]
        refine wpAnyH_take (i := 5) (oi := ?tko85) (v := ?tkv85) ?tkh85 (by kernel_rfl) (by kernel_rfl) (by kernel_rfl) ?tkq85 ?tky85 hHeld ?tkr85
        case tkh85 => (simp only [List.getElem?_toArray, List.getElem?_cons_succ, List.getElem?_cons_zero]; rfl)
        case tkq85 => exact fun _ _ _ h => h
        case tky85 => exact Or.inl ⟨by rfl, by intro wSw hSw; (try dsimp only at hSw); go_simp; try with_reducible rfl⟩
        try simp only [Act.put, List.setIfInBounds_toArray, List.set_cons_zero, List.set_cons_succ]
        refine wpAnyH_take (i := 6) (oi := ?tko86) (v := ?tkv86) ?tkh86 (by kernel_rfl) (by kernel_rfl) (by kernel_rfl) ?tkq86 ?tky86 hHeld ?tkr86
        case tkh86 => (simp only [List.getElem?_toArray, List.getElem?_cons_succ, List.getElem?_cons_zero]; rfl)
        case tkq86 => exact fun _ _ _ h => h
        case tky86 => exact Or.inl ⟨by rfl, by intro wSw hSw; (try dsimp only at hSw); go_simp; try with_reducible rfl⟩
        try simp only [Act.put, List.setIfInBounds_toArray, List.set_cons_zero, List.set_cons_succ]
        refine wpAnyH_take (i := 7) (oi := ?tko87) (v := ?tkv87) ?tkh87 (by kernel_rfl) (by kernel_rfl) (by kernel_rfl) ?tkq87 ?tky87 hHeld ?tkr87
        case tkh87 => (simp only [List.getElem?_toArray, List.getElem?_cons_succ, List.getElem?_cons_zero]; rfl)
        case tkq87 => exact fun _ _ _ h => h
        case tky87 => exact Or.inl ⟨by rfl, by intro wSw hSw; (try dsimp only at hSw); go_simp; try with_reducible rfl⟩
        try simp only [Act.put, List.setIfInBounds_toArray, List.set_cons_zero, List.set_cons_succ]
        refine wpAnyH_take (i := 8) (oi := ?tko88) (v := ?tkv88) ?tkh88 (by kernel_rfl) (by kernel_rfl) (by kernel_rfl) ?tkq88 ?tky88 hHeld ?tkr88
        case tkh88 => (simp only [List.getElem?_toArray, List.getElem?_cons_succ, List.getElem?_cons_zero]; rfl)
        case tkq88 => exact fun _ _ _ h => h
        case tky88 => exact Or.inl ⟨by rfl, by intro wSw hSw; (try dsimp only at hSw); go_simp; try with_reducible rfl⟩
        try simp only [Act.put, List.setIfInBounds_toArray, List.set_cons_zero, List.set_cons_succ]
        refine wpAnyH_take (i := 9) (oi := ?tko89) (v := ?tkv89) ?tkh89 (by kernel_rfl) (by kernel_rfl) (by kernel_rfl) ?tkq89 ?tky89 hHeld ?tkr89
        case tkh89 => (simp only [List.getElem?_toArray, List.getElem?_cons_succ, List.getElem?_cons_zero]; rfl)
        case tkq89 => exact fun _ _ _ h => h
        case tky89 => exact Or.inl ⟨by rfl, by intro wSw hSw; (try dsimp only at hSw); go_simp; try with_reducible rfl⟩
        try simp only [Act.put, List.setIfInBounds_toArray, List.set_cons_zero, List.set_cons_succ]
        refine Skips.skips (by kernel_rfl) (fun _ _ _ _ _ h => h) hHeld [10, 11, 12, 13, 14, 15, 16, 17, 18, 19, 20, 21, 22, 23, 24, 25, 26, 27] _ 15 _ _ (by kernel_rfl) ?tkk90 ?tkr90
        case tkk90 => kernel_rfl
        simp only [Skips.skipAct, Skips.skipListed, List.getElem?_toArray, List.getElem?_cons_succ, List.getElem?_cons_zero, Act.put, List.setIfInBounds_toArray, List.set_cons_zero, List.set_cons_succ]
        refine wpAnyH_take (i := 28) (oi := ?tko91) (v := ?tkv91) ?tkh91 (by kernel_rfl) (by kernel_rfl) (by kernel_rfl) ?tkq91 ?tky91 hHeld ?tkr91
        case tkh91 => (simp only [List.getElem?_toArray, List.getElem?_cons_succ, List.getElem?_cons_zero]; rfl)
        case tkq91 => exact fun _ _ _ h => h
        case tky91 => exact Or.inl ⟨by rfl, by intro wSw hSw; (try dsimp only at hSw); go_simp; try with_reducible rfl⟩
        try simp only [Act.put, List.setIfInBounds_toArray, List.set_cons_zero, List.set_cons_succ]
        refine wpAnyH_take (i := 29) (oi := ?tko92) (v := ?tkv92) ?tkh92 (by kernel_rfl) (by kernel_rfl) (by kernel_rfl) ?tkq92 ?tky92 hHeld ?tkr92
        case tkh92 => (simp only [List.getElem?_toArray, List.getElem?_cons_succ, List.getElem?_cons_zero]; rfl)
        case tkq92 => exact fun _ _ _ h => h
        case tky92 => exact Or.inl ⟨by rfl, by intro wSw hSw; (try dsimp only at hSw); go_simp; try with_reducible rfl⟩
        try simp only [Act.put, List.setIfInBounds_toArray, List.set_cons_zero, List.set_cons_succ]
        refine wpAnyH_take (i := 30) (oi := ?tko93) (v := ?tkv93) ?tkh93 (by kernel_rfl) (by kernel_rfl) (by kernel_rfl) ?tkq93 ?tky93 hHeld ?tkr93
        case tkh93 => (simp only [List.getElem?_toArray, List.getElem?_cons_succ, List.getElem?_cons_zero]; rfl)
        case tkq93 => exact fun _ _ _ h => h
        case tky93 => exact Or.inl ⟨by rfl, by intro wSw hSw; (try dsimp only at hSw); go_simp; try with_reducible rfl⟩
        try simp only [Act.put, List.setIfInBounds_toArray, List.set_cons_zero, List.set_cons_succ]
        refine wpAnyH_take (i := 31) (oi := ?tko94) (v := ?tkv94) ?tkh94 (by kernel_rfl) (by kernel_rfl) (by kernel_rfl) ?tkq94 ?tky94 hHeld ?tkr94
        case tkh94 => (simp only [List.getElem?_toArray, List.getElem?_cons_succ, List.getElem?_cons_zero]; rfl)
        case tkq94 => exact fun _ _ _ h => h
        case tky94 => exact Or.inl ⟨by rfl, by intro wSw hSw; (try dsimp only at hSw); go_simp; try with_reducible rfl⟩
        try simp only [Act.put, List.setIfInBounds_toArray, List.set_cons_zero, List.set_cons_succ]
        refine wpAnyH_take (i := 32) (oi := ?tko95) (v := ?tkv95) ?tkh95 (by kernel_rfl) (by kernel_rfl) (by kernel_rfl) ?tkq95 ?tky95 hHeld ?tkr95
        case tkh95 => (simp only [List.getElem?_toArray, List.getElem?_cons_succ, List.getElem?_cons_zero]; rfl)
        case tkq95 => exact fun _ _ _ h => h
        case tky95 => exact Or.inl ⟨by rfl, by intro wSw hSw; (try dsimp only at hSw); go_simp; try with_reducible rfl⟩
        try simp only [Act.put, List.setIfInBounds_toArray, List.set_cons_zero, List.set_cons_succ]
        refine wpAnyH_take (i := 33) (oi := ?tko96) (v := ?tkv96) ?tkh96 (by kernel_rfl) (by kernel_rfl) (by kernel_rfl) ?tkq96 ?tky96 hHeld ?tkr96
        case tkh96 => (simp only [List.getElem?_toArray, List.getElem?_cons_succ, List.getElem?_cons_zero]; rfl)
        case tkq96 => exact fun _ _ _ h => h
        case tky96 => exact Or.inl ⟨by rfl, by intro wSw hSw; (try dsimp only at hSw); go_simp; try with_reducible rfl⟩
        try simp only [Act.put, List.setIfInBounds_toArray, List.set_cons_zero, List.set_cons_succ]
        refine wpAnyH_take (i := 34) (oi := ?tko97) (v := ?tkv97) ?tkh97 (by kernel_rfl) (by kernel_rfl) (by kernel_rfl) ?tkq97 ?tky97 hHeld ?tkr97
        case tkh97 => (simp only [List.getElem?_toArray, List.getElem?_cons_succ, List.getElem?_cons_zero]; rfl)
        case tkq97 => exact fun _ _ _ h => h
        case tky97 => exact Or.inl ⟨by rfl, by intro wSw hSw; (try dsimp only at hSw); go_simp; try with_reducible rfl⟩
        try simp only [Act.put, List.setIfInBounds_toArray, List.set_cons_zero, List.set_cons_succ]
        refine wpAnyH_take (i := 35) (oi := ?tko98) (v := ?tkv98) ?tkh98 (by kernel_rfl) (by kernel_rfl) (by kernel_rfl) ?tkq98 ?tky98 hHeld ?tkr98
        case tkh98 => (simp only [List.getElem?_toArray, List.getElem?_cons_succ, List.getElem?_cons_zero]; rfl)
        case tkq98 => exact fun _ _ _ h => h
        case tky98 => exact Or.inl ⟨by rfl, by intro wSw hSw; (try dsimp only at hSw); go_simp; try with_reducible rfl⟩
        try simp only [Act.put, List.setIfInBounds_toArray, List.set_cons_zero, List.set_cons_succ]
        refine wpAnyH_take (i := 36) (oi := ?tko99) (v := ?tkv99) ?tkh99 (by kernel_rfl) (by kernel_rfl) (by kernel_rfl) ?tkq99 ?tky99 hHeld ?tkr99
        case tkh99 => (simp only [List.getElem?_toArray, List.getElem?_cons_succ, List.getElem?_cons_zero]; rfl)
        case tkq99 => exact fun _ _ _ h => h
        case tky99 => exact Or.inl ⟨by rfl, by intro wSw hSw; (try dsimp only at hSw); go_simp; try with_reducible rfl⟩
        try simp only [Act.put, List.setIfInBounds_toArray, List.set_cons_zero, List.set_cons_succ]
        refine wpAnyH_take (i := 37) (oi := ?tko100) (v := ?tkv100) ?tkh100 (by kernel_rfl) (by kernel_rfl) (by kernel_rfl) ?tkq100 ?tky100 hHeld ?tkr100
        case tkh100 => (simp only [List.getElem?_toArray, List.getElem?_cons_succ, List.getElem?_cons_zero]; rfl)
        case tkq100 => exact fun _ _ _ h => h
        case tky100 => exact Or.inl ⟨by rfl, by intro wSw hSw; (try dsimp only at hSw); go_simp; try with_reducible rfl⟩
        try simp only [Act.put, List.setIfInBounds_toArray, List.set_cons_zero, List.set_cons_succ]
        refine wpAnyH_take (i := 38) (oi := ?tko101) (v := ?tkv101) ?tkh101 (by kernel_rfl) (by kernel_rfl) (by kernel_rfl) ?tkq101 ?tky101 hHeld ?tkr101
        case tkh101 => (simp only [List.getElem?_toArray, List.getElem?_cons_succ, List.getElem?_cons_zero]; rfl)
        case tkq101 => exact fun _ _ _ h => h
        case tky101 => exact Or.inl ⟨by rfl, by intro wSw hSw; (try dsimp only at hSw); go_simp; try with_reducible rfl⟩
        try simp only [Act.put, List.setIfInBounds_toArray, List.set_cons_zero, List.set_cons_succ]
        refine wpAnyH_take (i := 39) (oi := ?tko102) (v := ?tkv102) ?tkh102 (by kernel_rfl) (by kernel_rfl) (by kernel_rfl) ?tkq102 ?tky102 hHeld ?tkr102
        case tkh102 => (simp only [List.getElem?_toArray, List.getElem?_cons_succ, List.getElem?_cons_zero]; rfl)
        case tkq102 => exact fun _ _ _ h => h
        case tky102 => exact Or.inl ⟨by rfl, by intro wSw hSw; (try dsimp only at hSw); go_simp; try with_reducible rfl⟩
        try simp only [Act.put, List.setIfInBounds_toArray, List.set_cons_zero, List.set_cons_succ]
        refine wpAnyH_take (i := 40) (oi := ?tko103) (v := ?tkv103) ?tkh103 (by kernel_rfl) (by kernel_rfl) (by kernel_rfl) ?tkq103 ?tky103 hHeld ?tkr103
        case tkh103 => (simp only [List.getElem?_toArray, List.getElem?_cons_succ, List.getElem?_cons_zero]; rfl)
        case tkq103 => exact fun _ _ _ h => h
        case tky103 => exact Or.inl ⟨by rfl, by intro wSw hSw; (try dsimp only at hSw); go_simp; try with_reducible rfl⟩
        try simp only [Act.put, List.setIfInBounds_toArray, List.set_cons_zero, List.set_cons_succ]
        refine wpAnyH_take (i := 41) (oi := ?tko104) (v := ?tkv104) ?tkh104 (by kernel_rfl) (by kernel_rfl) (by kernel_rfl) ?tkq104 ?tky104 hHeld ?tkr104
        case tkh104 => (simp only [List.getElem?_toArray, List.getElem?_cons_succ, List.getElem?_cons_zero]; rfl)
        case tkq104 => exact fun _ _ _ h => h
        case tky104 => exact Or.inl ⟨by rfl, by intro wSw hSw; (try dsimp only at hSw); go_simp; try with_reducible rfl⟩
        try simp only [Act.put, List.setIfInBounds_toArray, List.set_cons_zero, List.set_cons_succ]
        refine wpAnyH_take (i := 42) (oi := ?tko105) (v := ?tkv105) ?tkh105 (by kernel_rfl) (by kernel_rfl) (by kernel_rfl) ?tkq105 ?tky105 hHeld ?tkr105
        case tkh105 => (simp only [List.getElem?_toArray, List.getElem?_cons_succ, List.getElem?_cons_zero]; rfl)
        case tkq105 => exact fun _ _ _ h => h
        case tky105 => exact Or.inl ⟨by rfl, by intro wSw hSw; (try dsimp only at hSw); go_simp; try with_reducible rfl⟩
        try simp only [Act.put, List.setIfInBounds_toArray, List.set_cons_zero, List.set_cons_succ]
        refine wpAnyH_done (by kernel_rfl) ?_ _
        clear hHeld
        go_wp2_with fail
        go_roundw
        case rel => exact ⟨i + 1, by omega, by go_num, HBk.out.trans (HDV.out.mono HBk.out.size)⟩
        case measure => simp [intOf]; omega
end Go.Proofs.Ytbbjoffknoaoiaa.Scan
