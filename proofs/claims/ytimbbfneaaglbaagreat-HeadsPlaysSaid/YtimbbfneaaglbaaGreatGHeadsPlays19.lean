/-
  The walk of the reference's Records, of bytes without a fault. By an AI agent.
  The walk of the reference's Head, of bytes that a fault cuts off. Written by wip/tools/genrefhead10.py's variant. By an AI agent.
  Appends of integers at growslice's own bound (more than 2^47 bytes). By an AI agent.
-/
import Derived.Test.YtimbbfneaaglbaaGreatGHeadsPlays6
import Derived.Test.YtimbbfneaaglbaaGreatGHeadsPlays17
import Derived.Test.YtimbbfneaaglbaaGreatGHeadsPlays18
import Derived.Test.YtimbbfneaaglbaaGreatGHeadsPlays7
import Derived.StillTailTactics
import Derived.Test.YtimbbfneaaglbaaGreatGHeadsPlays1
import Derived.Deep.DeepAppendWide
namespace Go.Proofs.YtimbbfneaaglbaaGreat.Log
open Go.RowKit Go.Proofs.YtimbbfneaaglbaaGreat.Ints Go.Proofs.YtimbbfneaaglbaaGreat.Mem Go.Proofs.YtimbbfneaaglbaaGreat.SumMath Go.Proofs.YtimbbfneaaglbaaGreat.SumWalks Go.Proofs.YtimbbfneaaglbaaGreat.Trace Go.Proofs.YtimbbfneaaglbaaGreat.Record

/-- What a call that reads a log leaves: the trace, and a number. -/
def GotRecs (w : World) (t : Tr) (err : Nat) (e : Ending) (w' : World) : Prop :=
  ∃ NA nc EA ec, e = .returned (.tuple #[.agg #[.slice NA t.names.length nc, .slice EA t.events.length ec], .int .i64 (err : Nat)]) ∧ TrOk (fun b => w.heap.size ≤ b) w' NA t.names.length nc EA t.events.length ec t ∧ (∀ a, NA = some a → w.heap.size ≤ a.block) ∧ Below w.heap.size w w'
/-- A trace that stands in a call's variable, as it is handed back. -/
theorem recs_end {W : World} {NA : Option Addr} {nc g0 g : Nat} {ns : List (List UInt8)} {EA : Option Addr} {ec : Nat} {l : List SEv} (hstr : Strs W NA ns) (hNA : ∀ a, NA = some a → g0 < a.block) (hs : ∀ s ∈ ns, s.length ≤ maxLen) (hc : ns.length ≤ nc ∧ nc ≤ maxLen)
    (hrow : OwnEvs (fun b => g < b) W (g + 1) (.slice EA l.length ec) l) (hg : g0 < g) (u0 u1 : Value) : TrOk (fun b => g0 ≤ b) ((W.setCell ⟨g0, 0, none⟩ u0).setCell ⟨g0, 1, none⟩ u1) NA ns.length nc EA l.length ec ⟨ns, l.map (·.1)⟩ := by
  obtain ⟨EA', ec', e, hev, h1, h2⟩ := hrow.reads (fun b hb _ => hb)
  injection e with e1 _ e2
  subst e1; subst e2
  refine ⟨rfl, by simp, strs_set hstr (fun a e => by have := hNA a e; omega) _ _, hs, ?_, hc, h1, h2⟩
  exact (hev.keep fun p u hp hu => by rw [Record.set2_cell _ g0 _ _ _ (by have : g < p.block := hp; omega)]; exact hu).mono fun b _ hb => Nat.le_of_lt (Nat.lt_trans hg hb)

set_option maxHeartbeats 16000000 in
set_option maxRecDepth 100000 in
theorem refRecords (A : Option Addr) (n c : Nat) (zs : List Int) (w : World) (hnc : n ≤ c) (hc : c ≤ maxLen) (hn : n ≤ 58000000) (h : Rd .u8 w A n zs) :
    Calls Tryz.prog 42 #[.slice A n c, .int .i64 (-1)] w (GotRecs w (recordsD zs).1 (recordsD zs).2) := by
  have q63 : maxLen = 9223372036854775807 := rfl
  obtain ⟨i0, hi, hz0, hz1, hz2⟩ := info_parts infoEvent
  have hl := h.len
  have b0 := Blk.new w #[.slice none 0 0, .slice none 0 0] 33 [.slice none 0 0, .slice none 0 0] rfl
  have hal := (Below.refl _ w).alloc (Nat.le_refl _) (.cells #[.slice none 0 0, .slice none 0 0] 33)
  have FH := refHead0 A n c zs (w.alloc (.cells #[.slice none 0 0, .slice none 0 0] 33)) hnc hc (h.alloc _)
  unfold GotHead at FH
  obtain ⟨ns, hns⟩ : ∃ ns, (headD zs 5).1 = ns := ⟨_, rfl⟩
  obtain ⟨p0, hp0⟩ : ∃ p0, (headD zs 5).2.1 = p0 := ⟨_, rfl⟩
  obtain ⟨e0, he0⟩ : ∃ e0, (headD zs 5).2.2 = e0 := ⟨_, rfl⟩
  rw [hns, hp0, he0] at FH
  have HH := Lib.hid FH
  have HB0 := Lib.hid b0
  have HAL := Lib.hid hal
  have hns64 : ns.length ≤ 64 := by rw [← hns]; exact (head_names (by decide)).1
  by_cases hE : e0 = 0
  rotate_left
  · have HR := Lib.hid (show recordsD zs = (noTr, e0) by unfold recordsD; rw [he0, if_pos hE])
    have he1 : ((e0 : Int) == 0) = false := by simp; omega
    clear FH b0 hal hns hp0 he0 h hl
    go_enter Tryz.func42, Tryz.ntmps42
    go_wp2_with fail
    refine HH.out.mono ?_
    rintro e w1 ⟨A1, c1, rfl, -, hB1⟩
    have b1 := HB0.out.later hB1
    have r0 := b1.cell 0 rfl
    have r1 := b1.cell 1 rfl
    have q0 := b1.fz 0 rfl
    have q1 := b1.fz 1 rfl
    have z := b1.set 0 (.slice none 0 0) (by simp)
    have z0 := z.cell 0 rfl
    have z1 := (z.set 1 (.slice none 0 0) (by simp)).cell 1 rfl
    have HB1 := Lib.hid (HAL.out.trans (hB1.mono HAL.out.size))
    clear b1 z hB1
    go_wp2
    refine bodyPost_ret (v := .tuple #[.agg #[.slice none 0 0, .slice none 0 0], .int .i64 (e0 : Nat)]) (by simp [results, Tryz.results42, go_sem, z0, z1]) rfl ?_
    rw [HR.out]
    exact ⟨none, 0, none, 0, rfl, TrOk.none _ _, (fun a e => by cases e), (HB1.out.setCell (Nat.le_refl _) _).setCell (Nat.le_refl _) _⟩
  subst hE
  have hple : p0 ≤ n := by rw [← hl, ← hp0]; exact (head_place (by decide) he0).2
  have hn9 : 9 ≤ n := by have := (head_place (by decide) he0).1; omega
  obtain ⟨R, hR⟩ : ∃ R, recsD zs ns.length (n + 1) p0 0 [] = R := ⟨_, rfl⟩
  have HR := Lib.hid (show recordsD zs = (⟨ns, R.1⟩, R.2) by unfold recordsD; rw [he0, if_neg (fun h => h rfl), hns, hp0, hl, hR])
  have HRR := Lib.hid hR
  obtain ⟨b, off, rfl, -⟩ := h.cell (by omega)
  have HNS := Lib.hid (show ∀ s ∈ ns, s.length ≤ maxLen from fun s hs => by rw [← hns] at hs; have := (head_names (by decide)).2 s hs; omega)
  have HD := Lib.hid h
  have HL := Lib.hid hl
  have HBY := Lib.hid (all_u8 h.all)
  clear FH b0 hal hns hp0 he0 h hl hR
  go_enter Tryz.func42, Tryz.ntmps42
  go_wp2_with fail
  refine HH.out.mono ?_
  rintro e w1 ⟨NA, nc, rfl, hown1, hB1⟩
  obtain ⟨-, hstr, hncc, hncm⟩ := strs_own hown1
  have HNA := Lib.hid (show ∀ a, NA = some a → w.heap.size < a.block from fun a e => by
    obtain ⟨A', c', e1, -, -, -, h5⟩ := own_slice hown1
    injection e1 with e1
    subst e1
    have := (h5 a e).1
    simp at this
    omega)
  have b1 := HB0.out.later hB1
  have hB2 := HAL.out.trans (hB1.mono HAL.out.size)
  have t1 := Blk.new w1 #[.slice NA ns.length nc, .slice none 0 0] 33 [.slice NA ns.length nc, .slice none 0 0] rfl
  have HB1 := Lib.hid b1
  have HB2 := Lib.hid hB2
  have HT1 := Lib.hid t1
  have HSTR := Lib.hid hstr
  have hlt1 : w.heap.size < w1.heap.size := b1.1
  clear b1 hB1 hB2 t1 hown1 hstr HH HB0 HAL
  go_wp2_with fail
  go_loopw [8, 11] (fun q lt wr => ∃ (p : Nat) (last : Int) (v : Value) (l : List SEv) (f : Nat), q = .int .i64 p ∧ lt = .int .u64 last ∧ p ≤ n ∧ n < p + f ∧ 14 * l.length ≤ p ∧ 0 ≤ last ∧ last ≤ 18446744073709551615 ∧ Blk wr w.heap.size [.slice none 0 0, .slice none 0 0] ∧
      Blk wr w1.heap.size [.slice NA ns.length nc, v] ∧ OwnEvs (fun b => w1.heap.size < b) wr (w1.heap.size + 1) v l ∧ Below w1.heap.size w1 wr ∧ Hid (recsD zs ns.length f p last (l.map (·.1)) = R)) (fun q _ _ => n + 1 - (intOf q).toNat)
  case atStart => exact ⟨p0, 0, _, [], n + 1, rfl, rfl, hple, by omega, by simp, by omega, by omega, HB1.out.alloc _, HT1.out, OwnEvs.nil _ _ _, (Below.refl _ _).alloc (Nat.le_refl _) _, HRR.out⟩
  case round =>
    obtain ⟨p, last, v, l, f, rfl, rfl, hp, hf, hl14, hl0, hl1, hK0, hK1, hrow, hBr, hN⟩ := hrel
    obtain ⟨f', rfl⟩ : ∃ f', f = f' + 1 := ⟨f - 1, by omega⟩
    obtain ⟨EA, ec, rfl, -, hec1, hec2⟩ := hrow.reads (fun b hb _ => hb)
    have hgr : w1.heap.size < wr.heap.size := hK1.1
    have hBw := HB2.out.trans (hBr.mono HB2.out.size)
    obtain ⟨A', hsl, hrd⟩ : ∃ A', (∀ W, (Instr.slice 28 (.slice (some ⟨b, off, none⟩) n c) (some (.int .i64 (p : Int))) none none).run Tryz.prog W = .ok (.slice A' (n - p) (c - p)) W) ∧ Rd .u8 wr A' (n - p) (zs.drop p) := by
      refine ⟨fromAddr (some ⟨b, off, none⟩) c p 1, fun W => slice_from 28 (by kernel_rfl) 1 (by kernel_rfl) _ n c p hp W, ?_⟩
      have hd := (HD.out.below hBw).drop hp
      unfold fromAddr
      split
      · have e : n - p = 0 := by omega
        rw [e] at hd ⊢
        rw [List.eq_nil_of_length_eq_zero hd.len]
        exact Rd.nil _ _ _
      · have e : (⟨b, off, none⟩ : Addr).add (p * 1) = ⟨b, off + p, none⟩ := by unfold Addr.add; split <;> simp_all
        show Rd .u8 wr (some ((⟨b, off, none⟩ : Addr).add (p * 1))) _ _
        rw [e]
        exact hd
    have FG := refGetR A' (n - p) (c - p) (zs.drop p) (ns.length : Int) wr (by omega) (by omega) hrd
    unfold GotGet at FG
    have hyb : ∀ z ∈ zs.drop p, 0 ≤ z ∧ z ≤ 255 := fun z hz => HBY.out z (List.mem_of_mem_drop hz)
    have hyt := ev_time hyb
    have HOK := Lib.hid (fun h => get_ok (b := zs.drop p) (p := (ns.length : Int)) h)
    have HYL := Lib.hid (show (zs.drop p).length = n - p by rw [List.length_drop, HL.out])
    obtain ⟨y, hy⟩ : ∃ y, zs.drop p = y := ⟨_, rfl⟩
    have HNE := Lib.hid (fun e h he => recsD_err (b := zs) (props := (ns.length : Int)) (last := last) (es := l.map (·.1)) (p := p) (e := e) f' h he)
    have HNT := Lib.hid (fun h h2 => recsD_time (b := zs) (props := (ns.length : Int)) (last := last) (es := l.map (·.1)) (p := p) f' h h2)
    have HNN := Lib.hid (fun h h2 => recsD_next (b := zs) (props := (ns.length : Int)) (last := last) (es := l.map (·.1)) (p := p) f' h h2)
    rw [hy] at FG hyt HOK HYL HNE HNT HNN
    obtain ⟨x, hx⟩ : ∃ x, getE y (ns.length : Int) = x := ⟨_, rfl⟩
    obtain ⟨q, hq⟩ : ∃ q, getN y (ns.length : Int) = q := ⟨_, rfl⟩
    obtain ⟨er, her⟩ : ∃ er, errR y (propsR (ns.length : Int)) = er := ⟨_, rfl⟩
    rw [hx, hq, her] at FG
    rw [her] at HOK HNE HNT HNN
    rw [hx, hq] at HOK
    have HG := Lib.hid FG
    have HK0 := Lib.hid hK0
    have HK1 := Lib.hid hK1
    have HROW := Lib.hid hrow
    have HBR := Lib.hid hBr
    have HBW := Lib.hid hBw
    clear FG hrd hyb hy hx hq her hK0 hK1 hrow hBr hBw
    go_wp2_with fail
    refine HG.out.mono ?_
    rintro e w3 ⟨K, ck, rfl, hk, hB3, hfar⟩
    have hal4 := (Below.refl _ w3).alloc (Nat.le_refl _) (.cells #[.int .u64 x.time, .slice K x.ids.length ck] 38)
    have hx4 := Blk.new w3 #[.int .u64 x.time, .slice K x.ids.length ck] 38 [.int .u64 x.time, .slice K x.ids.length ck] rfl
    have hs34 : (w3.alloc (.cells #[.int .u64 x.time, .slice K x.ids.length ck] 38)).heap.size = w3.heap.size + 1 := by simp
    have hB34 := hB3.trans (hal4.mono hB3.size)
    have hk4 := hk.below hal4
    obtain ⟨W4, hW4⟩ : ∃ W4, w3.alloc (.cells #[.int .u64 x.time, .slice K x.ids.length ck] 38) = W4 := ⟨_, rfl⟩
    rw [hW4] at hx4 hs34 hB34 hk4
    have HG0 := Lib.hid (HK0.out.later hB34)
    have HGT := Lib.hid (HK1.out.later hB34)
    have HX4 := Lib.hid hx4
    have HO4 := Lib.hid (HROW.out.below hB34)
    have HBR4 := Lib.hid (HBR.out.trans (hB34.mono HBR.out.size))
    have HB4 := Lib.hid (HBW.out.trans (hB34.mono HBW.out.size))
    have HS4 := Lib.hid (HSTR.out.below HBR4.out)
    have HKX := Lib.hid (show KidOk (fun b => w1.heap.size < b ∧ some b ≠ (Value.slice EA l.length ec).ownBlock) W4 (x, K, ck) from ⟨hk4, fun a e _ => by
      have h1 := hfar a e
      refine ⟨by omega, fun e2 => ?_⟩
      have := (HROW.out.1.lt a.block e2.symm).2
      omega⟩)
    have HW4S := Lib.hid hs34
    have HNE3 := Lib.hid (show some w3.heap.size ≠ (Value.slice EA l.length ec).ownBlock from fun e => by
      have := (HROW.out.1.lt _ e.symm).2
      have := hB3.size
      omega)
    have x0 := hx4.cell 0 rfl
    have x1 := hx4.cell 1 rfl
    have y0 := HGT.out.cell 0 rfl
    have y1 := HGT.out.cell 1 rfl
    have yf := HGT.out.fz 1 rfl
    have r0 := HG0.out.cell 0 rfl
    have r1 := HG0.out.cell 1 rfl
    have rf0 := HG0.out.fz 0 rfl
    have rf1 := HG0.out.fz 1 rfl
    clear hal4 hB34 hk4 hk hfar hB3 HK0 HK1 HROW HBR HBW hx4 hs34
    by_cases her0 : er = 0
    rotate_left
    · have hRv : (l.map (·.1), er) = R := by rw [← hN.out]; exact (HNE.out er rfl her0).symm
      have her1 : ((er : Int) == 0) = false := by simp; omega
      have z := HG0.out.set 0 (.slice NA ns.length nc) (by simp)
      have z0 := z.cell 0 rfl
      have z1 := (z.set 1 (.slice EA l.length ec) (by simp)).cell 1 rfl
      clear z
      go_wp2
      refine bodyPost_ret (v := .tuple #[.agg #[.slice NA ns.length nc, .slice EA l.length ec], .int .i64 (er : Nat)]) (by simp [results, Tryz.results42, go_sem, z0, z1]) rfl ?_
      rw [HR.out, ← hRv]
      refine ⟨NA, nc, EA, ec, by rw [List.length_map], ?_, (fun a e => Nat.le_of_lt (HNA.out a e)), (HB4.out.setCell (Nat.le_refl _) _).setCell (Nat.le_refl _) _⟩
      rw [List.length_map]
      exact recs_end HS4.out HNA.out HNS.out ⟨hncc, hncm⟩ HO4.out hlt1 _ _
    · subst her0
      obtain ⟨hxe, hqe, hq14, hqn⟩ := HOK.out rfl
      have hyl := HYL.out
      obtain ⟨t3, ht3⟩ : ∃ t3, x.time = t3 := ⟨_, rfl⟩
      have ht0 : 0 ≤ t3 ∧ t3 ≤ 18446744073709551615 := by rw [← ht3, hxe]; exact hyt
      obtain ⟨ht0, ht1⟩ := ht0
      obtain ⟨m3, hm3⟩ : ∃ m3, x.ids.length = m3 := ⟨_, rfl⟩
      have HM3 := Lib.hid hm3
      have HT3 := Lib.hid ht3
      rw [ht3] at x0 hW4
      rw [hm3] at x1 hW4
      rw [ht3, hm3]
      rw [← hxe] at HNT HNN
      rw [← hqe] at HNN
      rw [ht3] at HNT HNN
      have hq14' : 14 ≤ q := by omega
      have hqn' : q ≤ n - p := by omega
      clear hxe hqe hyt hq14 hqn
      by_cases hlt : t3 < last
      · have hRv : (l.map (·.1), 8) = R := by rw [← hN.out]; exact (HNT.out rfl hlt).symm
        have hlt' : decide (t3 < last) = true := decide_eq_true hlt
        clear hm3 ht3
        have z := HG0.out.set 0 (.slice NA ns.length nc) (by simp)
        have z0 := z.cell 0 rfl
        have z1 := (z.set 1 (.slice EA l.length ec) (by simp)).cell 1 rfl
        clear z
        go_wp2
        refine bodyPost_ret (v := .tuple #[.agg #[.slice NA ns.length nc, .slice EA l.length ec], .int .i64 8]) (by simp [results, Tryz.results42, go_sem, z0, z1]) rfl ?_
        rw [HR.out, ← hRv]
        refine ⟨NA, nc, EA, ec, by rw [List.length_map]; rfl, ?_, (fun a e => Nat.le_of_lt (HNA.out a e)), (HB4.out.setCell (Nat.le_refl _) _).setCell (Nat.le_refl _) _⟩
        rw [List.length_map]
        exact recs_end HS4.out HNA.out HNS.out ⟨hncc, hncm⟩ HO4.out hlt1 _ _
      · have HNX := Lib.hid (show recsD zs ns.length f' (p + q) t3 ((l ++ [(x, K, ck)]).map (·.1)) = R by
          rw [← hN.out, HNN.out rfl (by omega), List.map_append]
          rfl)
        have hlt' : decide (t3 < last) = false := decide_eq_false hlt
        have hsz4 : w1.heap.size + 1 ≤ W4.heap.size := HGT.out.1
        have hne : ∀ g, g < w1.heap.size + 1 → some g ≠ (Value.slice EA l.length ec).ownBlock := fun g hg e => by
          have := (HO4.out.1.lt g e.symm).1
          omega
        have HNEB := Lib.hid hne
        have hl4 : l.length ≤ 4194304 := by omega
        clear hm3 ht3 hne
        go_wp2_with (at_builtin; refine wpList_append_nd rfl (.tmp 70) (.tmp 72) 31 rfl (w1.heap.size + 1) i0 _ Tryz.underlying31 hi hz0 hz1 hz2 rfl (.slice EA l.length ec) l (by rfl) (fun b => w1.heap.size < b) HO4.out (x, K, ck) HKX.out _ _ (by rw [← HT3.out, ← HM3.out]; rfl) W4.heap.size rfl (by rfl) hl4 hsz4 ?_; intro v6 w6 hown6 hgr6 hat6; obtain ⟨EA6, ec6, rfl, -, hec61, hec62⟩ := hown6.reads (fun b hb _ => hb); have hGT6 := (HGT.out.alloc _).grown hgr6 (HNEB.out _ (by omega)); have y61 := hGT6.cell 1 rfl; have y6f := hGT6.fz 1 rfl; have hX6 := (HX4.out.alloc _).grown hgr6 HNE3.out; have x60 := hX6.cell 0 rfl; have x61 := hX6.cell 1 rfl)
        go_roundw
        case rel =>
          have hB0 := (((HG0.out.alloc (.cells #[.int .u64 t3, .slice K m3 ck] 38)).grown hgr6 (HNEB.out _ (by omega))).other ⟨w1.heap.size, 1, none⟩ (.slice EA6 (l.length + 1) ec6) (by show w.heap.size ≠ w1.heap.size; omega))
          have hBL := (((HBR4.out.alloc HBR4.out.size (.cells #[.int .u64 t3, .slice K m3 ck] 38)).grown hgr6 (le_alloc HBR4.out.size) (fun z hz => by have := (HO4.out.1.lt z hz).1; omega)).setCell (p := ⟨w1.heap.size, 1, none⟩) (Nat.le_refl _) (.slice EA6 (l.length + 1) ec6))
          have hOE := hown6.keep (grown_set w6 ⟨w1.heap.size, 1, none⟩ (.slice EA6 (l.length + 1) ec6)) (Or.inr (fun e => by
            have h7 : w1.heap.size + 1 ≤ w1.heap.size := (hown6.1.lt _ e).1
            omega)) (fun b hb e => by injection e with e; subst e; exact Nat.lt_irrefl _ hb)
          have e6 : (l ++ [(x, K, ck)]).length = l.length + 1 := by rw [List.length_append]; rfl
          rw [e6] at hOE
          have hT := hGT6.set 1 (.slice EA6 (l.length + 1) ec6) (by simp)
          have a1 : p + q ≤ n := by omega
          have a2 : n < p + q + f' := by omega
          have a3 : 14 * (l ++ [(x, K, ck)]).length ≤ p + q := by rw [e6]; omega
          have a4 : (p : Int) + (q : Int) = ((p + q : Nat) : Int) := by omega
          exact ⟨p + q, t3, .slice EA6 (l.length + 1) ec6, l ++ [(x, K, ck)], f', by rw [a4], by rw [HT3.out], a1, a2, a3, ht0, ht1, hB0, hT, hOE, hBL, HNX.out⟩
        case measure =>
          simp only [intOf]
          have a5 : ((p : Int) + (q : Int)).toNat = p + q := by omega
          rw [a5, Int.toNat_natCast]
          omega
end Go.Proofs.YtimbbfneaaglbaaGreat.Log

namespace Go.Proofs.YtimbbfneaaglbaaGreat.Log
open Go.RowKit Go.Proofs.YtimbbfneaaglbaaGreat.Ints Go.Proofs.YtimbbfneaaglbaaGreat.Mem Go.Proofs.YtimbbfneaaglbaaGreat.SumMath Go.Proofs.YtimbbfneaaglbaaGreat.SumWalks Go.Proofs.YtimbbfneaaglbaaGreat.Trace Go.Proofs.YtimbbfneaaglbaaGreat.Record
open Go.Proofs.YtimbbfneaaglbaaGreat.Lex (nameS)

set_option maxHeartbeats 8000000 in
set_option maxRecDepth 100000 in
theorem refHead1 (A : Option Addr) (n c : Nat) (zs : List Int) (w : World) (hnc : n ≤ c) (hc : c ≤ maxLen) (h : Rd .u8 w A n zs) :
    Calls Tryz.prog 74 #[.slice A n c, .bool true] w (GotHead w zs 10) := by
  have q63 : maxLen = 9223372036854775807 := rfl
  obtain ⟨i0, hi, hz0, hz1, hz2⟩ := info_parts infoStrL
  have hl := h.len
  have hby := all_u8 h.all
  by_cases h5 : n < 5
  · have h5' : (n : Int) < 5 := by omega
    have hE : headD zs 10 = ([], 0, 10) := by unfold headD; rw [if_pos (by omega)]
    clear h hl hby
    go_enter Tryz.func74, Tryz.ntmps74
    go_wp2
    refine bodyPost_ret (v := .tuple #[.slice none 0 0, .int .i64 0, .int .i64 10]) (by simp [results, Tryz.results74, go_sem]) rfl ?_
    exact head_none hE (Below.refl _ _)
  have h5' : ¬ ((n : Int) < 5) := by omega
  obtain ⟨b, off, rfl, hcell⟩ := h.cell (by omega)
  have x4 := hcell 4 (by omega)
  obtain ⟨hb4, hb4'⟩ := byte_bd hby 4
  rw [hb4'] at x4
  obtain ⟨cnt, hcnt⟩ : ∃ cnt, byteAt zs 4 = cnt := ⟨_, rfl⟩
  rw [hcnt] at x4 hb4
  have h4 := h.take (m := 4) (by omega)
  have hcv := run_str (P := Tryz.prog) (W := w) (c := c) 28 5 9 Tryz.underlying28 Tryz.underlying5 Tryz.underlying9 h4
  have g4 : (4 : Int) ≤ (c : Int) := by omega
  have g5 : (4 : Int) < (n : Int) := by omega
  have hmg := magic_same h4.all
  obtain ⟨sm, hsm⟩ : ∃ sm, strOfNums (zs.take 4) = sm := ⟨_, rfl⟩
  rw [hsm] at hcv hmg
  by_cases hm : zs.take 4 = [87, 71, 76, 1]
  rotate_left
  · have hE : headD zs 10 = ([], 0, 5) := by unfold headD; rw [if_neg (by omega), if_pos (Or.inl hm)]
    rw [decide_eq_false hm] at hmg
    clear h hl hby hcell hcnt hm h4 hsm
    go_enter Tryz.func74, Tryz.ntmps74
    go_wp2
    refine bodyPost_ret (v := .tuple #[.slice none 0 0, .int .i64 0, .int .i64 5]) (by simp [results, Tryz.results74, go_sem]) rfl ?_
    exact head_none hE (Below.refl _ _)
  rw [decide_eq_true hm] at hmg
  by_cases h64 : 64 < cnt
  · have hE : headD zs 10 = ([], 0, 5) := by unfold headD; rw [if_neg (by omega), if_pos (Or.inr (by omega))]
    have h64' : (64 : Int) < (cnt : Int) := by omega
    clear h hl hby hcell hcnt hm h4 hsm
    go_enter Tryz.func74, Tryz.ntmps74
    go_wp2
    refine bodyPost_ret (v := .tuple #[.slice none 0 0, .int .i64 0, .int .i64 5]) (by simp [results, Tryz.results74, go_sem]) rfl ?_
    exact head_none hE (Below.refl _ _)
  have h64' : ¬ ((64 : Int) < (cnt : Int)) := by omega
  have HE := Lib.hid (show headD zs 10 = lastD zs 10 (namesD zs 10 cnt 5 []) by unfold headD; rw [if_neg (by omega), if_neg (fun e => e.elim (fun e => e hm) (fun e => by omega)), hcnt])
  have HB := Lib.hid hby
  have HD := Lib.hid h
  have HL := Lib.hid hl
  have bad : ∀ e : Nat, e ≠ 0 → namesD zs 10 cnt 5 [] = ([], 0, e) → headD zs 10 = ([], 0, e) := fun e he hr => by
    rw [HE.out, hr]
    unfold lastD
    rw [if_pos he]
  have HBAD := Lib.hid bad
  clear h hl hby hcell hcnt hm h4 hsm bad hb4'
  go_enter Tryz.func74, Tryz.ntmps74
  go_wp2_with fail
  go_loopw [8, 9, 34] (fun v q i wr => ∃ (k p : Nat) (acc : List (List UInt8)), k ≤ cnt ∧ i = .int .i64 k ∧ q = .int .i64 p ∧ p ≤ 5 + 17 * k ∧ acc.length = k ∧ wr.ownsRow w.heap.size 9 1 v acc.length (acc.map strS) ∧ Below w.heap.size w wr ∧ Hid (namesD zs 10 (cnt - k) p acc = namesD zs 10 cnt 5 [])) (fun _ _ i _ => cnt - (intOf i).toNat)
  case atStart => exact ⟨0, 5, [], Nat.zero_le _, rfl, rfl, by omega, rfl, World.ownsRow_nil _ _ _ _, Below.refl _ _, rfl⟩
  case round =>
    obtain ⟨k, p, acc, hk, rfl, rfl, hp, hacc, hrow, hBr, hN⟩ := hrel
    clear x4 hcv hmg
    by_cases hkc : k < cnt
    · obtain ⟨d, hd⟩ : ∃ d, cnt - k = d + 1 := ⟨cnt - k - 1, by omega⟩
      rw [hd] at hN
      by_cases hpn : n ≤ p
      · have hE := HBAD.out 10 (by decide) (by rw [← hN.out, namesD_end d (by rw [HL.out]; exact hpn)])
        have hpn' : (p : Int) ≥ (n : Int) := by omega
        clear hrow hd hN hacc
        go_wp2
        refine bodyPost_ret (v := .tuple #[.slice none 0 0, .int .i64 0, .int .i64 10]) (by simp [results, Tryz.results74, go_sem]) rfl ?_
        exact head_none hE hBr
      have hpn' : ¬ ((p : Int) ≥ (n : Int)) := by omega
      have hpn2 : (p : Int) < (n : Int) := by omega
      obtain ⟨b2, off2, e2, hcell⟩ := (HD.out.below hBr).cell (by omega)
      simp only [Option.some.injEq, Addr.mk.injEq, and_true] at e2
      obtain ⟨rfl, rfl⟩ := e2
      have xp := hcell p (by omega)
      obtain ⟨hq1, hq2⟩ := byte_bd HB.out p
      rw [hq2] at xp
      obtain ⟨q, hq⟩ : ∃ q, byteAt zs p = q := ⟨_, rfl⟩
      rw [hq] at xp hq1
      have HQ := Lib.hid hq
      by_cases hqr : q < 1 ∨ 16 < q
      · have hE := HBAD.out 5 (by decide) (by rw [← hN.out, namesD_len d (by rw [HL.out]; omega) (by rw [hq]; exact hqr)])
        by_cases hq0 : (q : Int) < 1
        · have hq0' : decide ((q : Int) < 1) = true := decide_eq_true hq0
          clear hrow hd hN hacc hcell hq2 hq hqr
          go_wp2
          refine bodyPost_ret (v := .tuple #[.slice none 0 0, .int .i64 0, .int .i64 5]) (by simp [results, Tryz.results74, go_sem]) rfl ?_
          exact head_none hE hBr
        · have hq0' : decide ((q : Int) < 1) = false := decide_eq_false hq0
          have hq6' : decide ((q : Int) > 16) = true := decide_eq_true (by omega)
          clear hrow hd hN hacc hcell hq2 hq hqr
          go_wp2
          refine bodyPost_ret (v := .tuple #[.slice none 0 0, .int .i64 0, .int .i64 5]) (by simp [results, Tryz.results74, go_sem]) rfl ?_
          exact head_none hE hBr
      have hq0' : decide ((q : Int) < 1) = false := decide_eq_false (by omega)
      have hq6' : decide ((q : Int) > 16) = false := decide_eq_false (by omega)
      by_cases hsh : n < p + 1 + q
      · have hE := HBAD.out 10 (by decide) (by rw [← hN.out, namesD_short d (by rw [HL.out]; omega) (by rw [hq]; exact hqr) (by rw [HL.out, hq]; exact hsh)])
        have hsh' : (p : Int) + 1 + (q : Int) > (n : Int) := by omega
        clear hrow hd hN hacc hcell hq2 hq hqr
        go_wp2
        refine bodyPost_ret (v := .tuple #[.slice none 0 0, .int .i64 0, .int .i64 10]) (by simp [results, Tryz.results74, go_sem]) rfl ?_
        exact head_none hE hBr
      have hsh' : ¬ ((p : Int) + 1 + (q : Int) > (n : Int)) := by omega
      have hrd := ((HD.out.below hBr).drop (m := p + 1) (by omega)).take (m := q) (by omega)
      have hcv := run_str (P := Tryz.prog) (W := wr) (c := c - (p + 1)) 28 5 9 Tryz.underlying28 Tryz.underlying5 Tryz.underlying9 hrd
      obtain ⟨sb, hsb⟩ : ∃ sb, strOfNums ((zs.drop (p + 1)).take q) = sb := ⟨_, rfl⟩
      rw [hsb] at hcv
      have hsu : toU ((zs.drop (p + 1)).take (byteAt zs p)) = sb.data.toList := by rw [hq, ← hsb, strOfNums_data]; rfl
      have hss : sb.size ≤ 16 := by
        have e : sb.data.toList.length = q := by rw [← hsu, hq]; unfold toU; rw [List.length_map]; exact hrd.len
        have e2 : sb.size = sb.data.toList.length := Array.length_toList.symm
        omega
      have HSU := Lib.hid hsu
      have g6 : (p : Int) + 1 + (q : Int) ≤ (c : Int) := by omega
      have g7 : (p : Int) + 1 ≤ (p : Int) + 1 + (q : Int) := by omega
      have g8 : ¬ c = p + 1 := by omega
      have HROW := Lib.hid hrow
      have HACC := Lib.hid hacc
      obtain ⟨A2, c2, rfl, hc2, hm2, -, -⟩ := own_slice hrow
      obtain ⟨hacl, hstr, -, -⟩ := strs_own hrow
      have FN := Lib.hid (Lex.refName sb wr (by omega))
      have FC := Lib.hid (containsStr A2 acc.length c2 acc sb wr rfl (by omega) hstr)
      have HNO := Lib.hid (show (nameS sb.data.toList = false ∨ sb.data.toList ∈ acc) → namesD zs 10 (d + 1) p acc = ([], 0, 5) from fun h4 => namesD_none d (by rw [HL.out]; omega) (by rw [hq]; exact hqr) (by rw [HL.out, hq]; exact hsh) hsu h4)
      have HNE := Lib.hid (show nameS sb.data.toList = true → sb.data.toList ∉ acc → namesD zs 10 (d + 1) p acc = namesD zs 10 d (p + 1 + q) (acc ++ [sb.data.toList]) from fun h4 h5 => by
        have := namesD_next (miss := 10) d (by rw [HL.out]; omega) (by rw [hq]; exact hqr) (by rw [HL.out, hq]; exact hsh) hsu h4 h5
        rw [hq] at this
        exact this)
      have HDD := Lib.hid hd
      have hsz := hBr.size
      clear hrow hd hacc hq2 hq hcell hrd hsb hsu hstr hacl
      go_wp2_with fail
      rcases hnm : nameS sb.data.toList
      · have hE := HBAD.out 5 (by decide) (by rw [← hN.out]; exact HNO.out (Or.inl hnm))
        have FN2 := Lib.hid (hnm ▸ FN.out)
        clear hnm
        refine FN2.out.mono ?_
        rintro e w2 ⟨rfl, rfl⟩
        go_wp2
        refine bodyPost_ret (v := .tuple #[.slice none 0 0, .int .i64 0, .int .i64 5]) (by simp [results, Tryz.results74, go_sem]) rfl ?_
        exact head_none hE hBr
      · have FN2 := Lib.hid (hnm ▸ FN.out)
        have HNM := Lib.hid hnm
        clear hnm
        refine FN2.out.mono ?_
        rintro e w2 ⟨rfl, rfl⟩
        go_wp2_with fail
        by_cases hin : sb.data.toList ∈ acc
        · have hE := HBAD.out 5 (by decide) (by rw [← hN.out]; exact HNO.out (Or.inr hin))
          have FC2 := Lib.hid (decide_eq_true hin ▸ FC.out)
          clear hin
          refine FC2.out.mono ?_
          rintro e w3 ⟨rfl, rfl⟩
          go_wp2
          refine bodyPost_ret (v := .tuple #[.slice none 0 0, .int .i64 0, .int .i64 5]) (by simp [results, Tryz.results74, go_sem]) rfl ?_
          exact head_none hE hBr
        · have HN2 := Lib.hid (hN.out ▸ (HNE.out HNM.out hin).symm)
          have FC2 := Lib.hid (decide_eq_false hin ▸ FC.out)
          clear hin
          refine FC2.out.mono ?_
          rintro e w3 ⟨rfl, rfl⟩
          go_wp2_with (at_builtin; refine wpList_append_name rfl _ _ 30 rfl w.heap.size 9 i0 Tryz.underlying30 hi hz0 hz1 hz2 (.slice A2 acc.length c2) acc (by rfl) 9 sb HROW.out (by rfl) (by have := HACC.out; omega) hsz ?_; intro v4 w4 hown4 hgr4)
          go_roundw
          case rel =>
            have hdd := HDD.out
            have hacc := HACC.out
            exact ⟨k + 1, p + 1 + q, acc ++ [sb.data.toList], by omega, by go_num, by go_num, by omega, by rw [List.length_append, List.length_singleton, hacc], by rw [List.length_append, List.length_singleton]; exact hown4, (hBr.alloc hsz _).grown hgr4 (le_alloc hsz) (fun z hz => (HROW.out.lt z hz).1), by rw [show cnt - (k + 1) = d by omega]; exact HN2⟩
          case measure => simp [intOf]; omega
    · obtain rfl : k = cnt := by omega
      have hlast : headD zs 10 = lastD zs 10 (acc, p, 0) := by
        rw [HE.out, ← hN.out, Nat.sub_self]
        rfl
      unfold lastD at hlast
      rw [if_neg (fun h => h rfl)] at hlast
      simp only at hlast
      rw [HL.out] at hlast
      by_cases hsh : n < p + 4
      · rw [if_pos hsh] at hlast
        have hsh' : (p : Int) + 4 > (n : Int) := by omega
        clear hrow hacc
        go_wp2
        refine bodyPost_ret (v := .tuple #[.slice none 0 0, .int .i64 0, .int .i64 10]) (by simp [results, Tryz.results74, go_sem]) rfl ?_
        exact head_none hlast hBr
      rw [if_neg hsh] at hlast
      have hsh' : ¬ ((p : Int) + 4 > (n : Int)) := by omega
      have g9 : (p : Int) + 4 ≤ (c : Int) := by omega
      have ht := (HD.out.below hBr).take (m := p + 4) (by omega)
      have FR := (rights_both (some ⟨b, off, none⟩) (p + 4) c (zs.take (p + 4)) wr (by omega) hc (by omega) ht).2 wr ht
      obtain ⟨A2, c2, rfl, hc2, hm2, -, -⟩ := own_slice hrow
      have HROW := Lib.hid hrow
      rcases hse : sealedB (zs.take (p + 4))
      · rw [if_pos hse] at hlast
        unfold AnsR openN at FR
        rw [hse] at FR
        have HR := Lib.hid FR
        clear FR hse ht hrow hacc
        go_wp2_with fail
        refine HR.out.mono ?_
        rintro e w2 ⟨A3, c3, rfl, -, -, -, hB2⟩
        go_wp2
        refine bodyPost_ret (v := .tuple #[.slice none 0 0, .int .i64 0, .int .i64 5]) (by simp [results, Tryz.results74, go_sem]) rfl ?_
        exact head_none hlast (hBr.trans (hB2.mono hBr.size))
      · rw [if_neg (by rw [hse]; decide)] at hlast
        unfold AnsR openN at FR
        rw [hse] at FR
        have HR := Lib.hid FR
        have HLAST := Lib.hid hlast
        clear FR hse ht hrow hacc hlast
        go_wp2_with fail
        refine HR.out.mono ?_
        rintro e w2 ⟨A3, c3, rfl, -, -, -, hB2⟩
        go_wp2
        refine bodyPost_ret (v := .tuple #[.slice A2 acc.length c2, .int .i64 ((p : Int) + 4), .int .i64 0]) (by simp [results, Tryz.results74, go_sem]) rfl ?_
        unfold GotHead
        rw [HLAST.out]
        exact ⟨A2, c2, rfl, below_row HROW.out hB2, hBr.trans (hB2.mono hBr.size)⟩

end Go.Proofs.YtimbbfneaaglbaaGreat.Log

namespace Go.Proofs.YtimbbfneaaglbaaGreat.Ints
open Go.RowKit
section
variable {P : Program} {w : World}
/-- 'append(v, xs...)': v is the call's own, xs reads as numbers; at growslice's own bound. -/
theorem run_append_ints_wide (k : IntKind) (base : Nat) (t ty e : TypeId) (i : TypeInfo) (bytes : Nat) (ht : P.underlying t = some (.slice e)) (hi : P.info? e = some i) (hz : i.zero = some (.int k 0))
    (hsize : i.size = 1) (hby : i.bytes = bytes) (v : Value) (n : Nat) (zs : List Int) (hown : w.ownsRow base e 1 v n (zs.map (Value.int k)))
    (A : Option Addr) (m c : Nat) (ys : List Int) (hr : Rd k w A m ys) (h63 : n + m ≤ maxLen) (hbytes : ((n + m) + (n + m) / 4 + 192) * bytes ≤ 281474976710656) (hbase : base ≤ w.heap.size) :
    ∃ v' w', (Builtin.append_ #[t, t] ty #[v, .slice A m c]).run P w = .ok v' w' ∧ w'.ownsRow base e 1 v' (n + m) ((zs ++ ys).map (Value.int k)) ∧ w.grownBy w' v.ownBlock := by
  cases A with
  | some ad =>
    have hnews : ∀ j u, (ys.map (Value.int k))[j]? = some u → w.cell? (ad.add j) = some u := fun j u hu => by
      have hj : j < ys.length := by
        rcases Nat.lt_or_ge j ys.length with h | h
        · exact h
        · simp [List.getElem?_eq_none h] at hu
      obtain ⟨b, off, e, hc⟩ := hr.cell (by have := hr.len; omega)
      injection e with e
      subst e
      have h1 := hc j (by have := hr.len; omega)
      have h2 : (⟨b, off, none⟩ : Addr).add j = ⟨b, off + j, none⟩ := by unfold Addr.add; split <;> simp_all
      rw [h2, h1]
      simpa [List.getElem?_eq_getElem hj] using hu
    obtain ⟨v', w', hrun, ho, hg, _⟩ := run_append_own_wide (P := P) w base t ty e i (.int k 0) 1 bytes ht hi hz hsize hby rfl (by decide) v n _ hown ad m c (ys.map (Value.int k)) (by simp [hr.len]) hnews (one_cell k ys) h63 hbytes hbase
    exact ⟨v', w', hrun, by rw [List.map_append]; exact ho, hg⟩
  | none =>
    have hm : m = 0 := by
      rcases Nat.eq_zero_or_pos m with h | h
      · exact h
      · obtain ⟨_, _, h', _⟩ := hr.cell h
        cases h'
    subst hm
    have hy : ys = [] := List.eq_nil_of_length_eq_zero hr.len
    subst hy
    refine ⟨v, w, ?_, by simpa using hown, World.grownBy.refl w _⟩
    rcases hown.2 with ⟨rfl, rfl⟩ | ⟨g, cap, cur, rfl, _, _, hnc, _⟩
    · simp [Builtin.append_, run_underlying ht, sizeOf, typeInfo, hi, Builtin.lenOf, Builtin.firstCells]
    · simp [Builtin.append_, run_underlying ht, sizeOf, typeInfo, hi, Builtin.lenOf, Builtin.firstCells, hnc, storeCells]
theorem wpList_append_ints_wide {ops : Array Oper} {rest : List Oper} {o : Oper} {a : Act} {Q : Exit → Act → World → Prop} (hgd : o.guard = none) (s x : Operand) (t : TypeId)
    (ho : o.op = .call { callee := .builtin .append, args := #[s, x], argTypes := #[t, t] }) (k : IntKind) (base : Nat) (e : TypeId) (i : TypeInfo) (bytes : Nat)
    (ht : P.underlying t = some (.slice e)) (hi : P.info? e = some i) (hz : i.zero = some (.int k 0)) (hsize : i.size = 1) (hby : i.bytes = bytes)
    (v : Value) (n : Nat) (zs : List Int) (hs : a.eval s = v) (hown : w.ownsRow base e 1 v n (zs.map (Value.int k)))
    (A : Option Addr) (m c : Nat) (ys : List Int) (hx : a.eval x = .slice A m c) (hr : Rd k w A m ys)
    (h63 : n + m ≤ maxLen) (hbytes : ((n + m) + (n + m) / 4 + 192) * bytes ≤ 281474976710656) (hbase : base ≤ w.heap.size)
    (h : ∀ v' w', w'.ownsRow base e 1 v' (n + m) ((zs ++ ys).map (Value.int k)) → w.grownBy w' v.ownBlock → wpList P ops Q rest (a.put o.dst v') w') : wpList P ops Q (o :: rest) a w := by
  refine wpList_plain hgd fun K hK => ?_
  obtain ⟨v', w', hrun, h1, h2⟩ := run_append_ints_wide (P := P) k base t o.type e i bytes ht hi hz hsize hby v n zs hown A m c ys hr h63 hbytes hbase
  unfold Oper.wp
  simp [execOp, ho, resolve, invoke, builtin, hs, hx, hrun, Result.andThen]
  exact hK _ _ (h v' w' h1 h2)
end
end Go.Proofs.YtimbbfneaaglbaaGreat.Ints
