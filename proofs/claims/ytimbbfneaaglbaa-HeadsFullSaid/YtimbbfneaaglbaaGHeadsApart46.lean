/-
  The landed pool: the walk of Seek (stage 13). By an AI agent.
  The landed pool: New (stage 13). By an AI agent.
  The landed pool keeps its contracts (stage 13). By an AI agent.
-/
import Derived.Test.YtimbbfneaaglbaaGHeadsApart45
import Derived.Deep.Cut
import Derived.Test.YtimbbfneaaglbaaGHeadsApart43
import Derived.Test.YtimbbfneaaglbaaGHeadsApart44
namespace Go.Proofs.Ytimbbfneaaglbaa.Heads
open Go.RowKit Go.Proofs.Ytimbbfneaaglbaa.Ints Go.Proofs.Ytimbbfneaaglbaa.Mem Go.Proofs.Ytimbbfneaaglbaa.Trace Go.Proofs.Ytimbbfneaaglbaa.Record Go.Proofs.Ytimbbfneaaglbaa.Log Go.Proofs.Ytimbbfneaaglbaa.Src Go.Proofs.Ytimbbfneaaglbaa.Scan

theorem seek_none {s : PS} {id k : Int} (h : headP s.hs id = none) : seekP s id k = (11, s) := by unfold seekP; rw [h]
theorem seek_neg {s : PS} {id k : Int} {j : Nat} (h : headP s.hs id = some j) (hk : k < 0) : seekP s id k = (1, s) := by unfold seekP; rw [h]; simp only; rw [if_pos hk]
theorem seek_end {s : PS} {id k : Int} {j : Nat} (h : headP s.hs id = some j) (hk : ¬ k < 0) (hl : (s.t.events.length : Int) < k) : seekP s id k = (s.er, s) := by unfold seekP; rw [h]; simp only; rw [if_neg hk, if_pos hl]
theorem seek_some {s : PS} {id k : Int} {j : Nat} (h : headP s.hs id = some j) (hk : ¬ k < 0) (hl : ¬ (s.t.events.length : Int) < k) : seekP s id k = (0, meterP { s with hs := s.hs.set id.toNat (some k.toNat) }) := by unfold seekP; rw [h]; simp only; rw [if_neg hk, if_neg hl]
set_option maxHeartbeats 16000000 in
set_option maxRecDepth 100000 in
theorem land_seek (b : List Int) (f : Nat) (w : World) (g : Nat) (D : Nat → Prop) (N : Nat) (s : PS) (id k : Int) (h : LandL b f w g D N s) (hok : OkP s) (hl : s.hs.length ≤ 100000) (hN : N ≤ 2305843009213693952) (hk : small64 k) :
    Calls Try.prog 12 #[.pointer (some ⟨g, 0, none⟩), .int .i64 id, .int .i64 k] w fun e w' => e = .returned (.int .i64 ((seekP s id k).1 : Nat)) ∧ TurnL LandL b f w w' g D N (seekP s id k).2 := by
  obtain ⟨hk1, hk2⟩ := hk
  obtain ⟨q, NA, nc, A, n, c, pl, h⟩ := h
  have hn : n = countP s.hs := by rw [← h.len, hds_len]
  have hnl := count_le s.hs
  have hcl := cells_bd hok hl
  have HF := Lib.hid (find_land g A n c (hdsL s.t pl s.hs) id _ _ _ _ _ _ w h.blk h.len (by omega) h.nc (RdH.own h.row h.len) (hds_sorted s.t pl s.hs))
  have H := Lib.hid h
  obtain ⟨er, her⟩ : ∃ r, (seekP s id k).1 = r := ⟨_, rfl⟩
  obtain ⟨s', hs'⟩ : ∃ r, (seekP s id k).2 = r := ⟨_, rfl⟩
  rw [her, hs']
  have HR3 := Lib.hid (And.intro her hs')
  have hnb : n ≤ 100000 := by omega
  clear h her hs' hn hnl
  go_enter Try.func12, Try.ntmps12
  go_wp2_with fail
  refine HF.out.mono ?_
  rintro e w1 ⟨p, bb, rfl, h1, h2, h3, hB1⟩
  have HB1 := Lib.hid hB1
  rcases find_tells h1 h2 h3 with ⟨rfl, k0, A1, B1, e1, e2, e3, e4, e5⟩ | ⟨rfl, e1⟩
  · by_cases hneg : k < 0
    · obtain ⟨a1, a2⟩ := HR3.out
      rw [seek_neg e1 hneg] at a1 a2
      simp only at a1 a2
      have HT := Lib.hid (turn_below (b := b) (f := f) (D := D) (N := N) ⟨q, NA, nc, A, n, c, pl, H.out⟩ hB1)
      subst a1 a2
      clear h1 h2 h3 hB1 HF e1 e2 e3 e4 e5
      go_wp2_with fail
      go_ret
      exact ⟨rfl, HT.out⟩
    obtain ⟨m, rfl⟩ : ∃ m : Nat, k = (m : Int) := ⟨k.toNat, by omega⟩
    have hid := (head_some e1).1
    have hidn : ((id.toNat : Nat) : Int) = id := by omega
    have hxp : (hdsL s.t pl s.hs)[p]? = some (hdOf s.t pl (id.toNat, k0)) := hds_get (by rw [e2, ← e3, List.getElem?_append_right (Nat.le_refl _), Nat.sub_self]; rfl)
    obtain ⟨r, rfl, -, -, -, -, -, hpn⟩ := (H.out.below hB1).at_ hxp
    have HST := Lib.hid (startC g _ _ _ _ _ _ (pl 0) id w1 (H.out.below hB1).blk)
    have HE := Lib.hid (And.intro e1 (And.intro e2 (And.intro e3 e4)))
    have HXP := Lib.hid hxp
    have HID := Lib.hid hidn
    have hpb : p ≤ 100000 := by omega
    have HNEG := Lib.hid hneg
    clear h1 h2 h3 e1 e2 e3 e4 e5 hxp hB1 HF hid hidn
    go_wp2_with (go_at_call 29; refine HST.out.mono ?_; rintro e w2 ⟨rfl, hB2⟩)
    have HB2 := Lib.hid (HB1.out.trans (hB2.mono HB1.out.size))
    obtain ⟨T, hT⟩ : ∃ T, w2.alloc (.cells #[.int .i64 id, .int .i64 (pl 0 : Nat), .int .i64 0, .int .u64 0, .int .i64 0] 72) = T := ⟨_, rfl⟩
    have hBT : Below w.heap.size w T := by rw [← hT]; exact HB2.out.alloc HB2.out.size _
    have hbx : Blk T w2.heap.size (cellsHd (hdOf s.t pl (id.toNat, 0))) := by
      rw [← hT]
      refine Blk.new w2 _ _ _ ?_
      show _ = [Value.int .i64 ((id.toNat : Nat) : Int), .int .i64 ((pl 0 : Nat) : Int), .int .i64 0, .int .u64 0, .int .i64 0]
      rw [HID.out]
    obtain ⟨hh, hhh⟩ : ∃ hh, w2.heap.size = hh := ⟨_, rfl⟩
    have hhw : w.heap.size ≤ hh := by rw [← hhh]; exact HB2.out.size
    have HT0 := Lib.hid (show Blk T hh (cellsHd (hdOf s.t pl (id.toNat, 0))) by rw [← hhh]; exact hbx)
    have HL0 := Lib.hid (H.out.below hBT)
    have HLE0 := Lib.hid (show Left D w T from Left.of_below hBT)
    clear hbx hB2 HB2 HST hBT
    try rw [hT, hhh]
    clear hT hhh
    go_loopw [31] (fun v wr => ∃ j N' : Nat, v = .int .i64 (j : Nat) ∧ j ≤ m ∧ j ≤ s.t.events.length ∧ Blk wr hh (cellsHd (hdOf s.t pl (id.toNat, j))) ∧ LQ b f wr g D N' s q NA nc (some ⟨r, 0, none⟩) n c pl (hdsL s.t pl s.hs) (cellsP s.t s.hs) s.peak ∧ Left D w wr ∧ N' ≤ N + 78 * j) (fun v _ => m - (intOf v).toNat)
    case atStart => exact ⟨0, N, rfl, Nat.zero_le _, Nat.zero_le _, HT0.out, HL0.out, HLE0.out, by omega⟩
    case round =>
      obtain ⟨j, N', rfl, hjm, hje, hbx, hlq, hle, hN'⟩ := hrel
      have HBX := Lib.hid hbx
      have HLQ := Lib.hid hlq
      have HLE := Lib.hid hle
      have hfar := hlq.walk.far j hje
      have hple := hlq.walk.le j hje
      have hjb : j ≤ 10000000 := by have := hlq.ln.len; obtain ⟨sc, hs⟩ := hlq.ln.src; have := hs.le; omega
      obtain ⟨x, hx⟩ : ∃ x, hdOf s.t pl (id.toNat, j) = x := ⟨_, rfl⟩
      have hbx2 := hbx
      rw [hx] at hbx2
      have y0 := hbx2.cell 0 rfl
      have y1 := hbx2.cell 1 rfl
      have y2 := hbx2.cell 2 rfl
      have y3 := hbx2.cell 3 rfl
      have y4 := hbx2.cell 4 rfl
      clear hbx hlq hle hbx2 hfar hple
      by_cases hjk : j < m
      · obtain ⟨sc, hrd⟩ := HLQ.out.readC (by omega) id.toNat j hje
        have htell := read_tells HLQ.out.walk id.toNat hje
        rw [hx] at hrd htell
        have HRD := Lib.hid hrd
        have HTELL := Lib.hid htell
        have HX := Lib.hid hx
        have HJE := Lib.hid hje
        have HN1 := Lib.hid hN'
        clear hrd htell hx
        go_wp2_with fail
        refine HRD.out.mono ?_
        rintro e w2 ⟨N2, hs2, hN2, hg2, hres⟩
        have H2 := Lib.hid (HLQ.out.read hs2 hg2)
        have hhq : hh ≠ q := by have := H.out.ln.lt q H.out.ln.dq; omega
        have HX2 := Lib.hid (HBX.out.grown hg2 (fun e => hhq (by injection e)))
        have HG2 := Lib.hid hg2
        have HN2 := Lib.hid hN2
        have HL2 := Lib.hid (show Left D w w2 from HLE.out.trans (left_read hg2 H.out.ln.dq) (fun _ e => .inl e))
        have hsz2 := HL2.out.size
        have hat : x.at_ = ((pl j : Nat) : Int) := by rw [← HX.out]; rfl
        simp only [hat] at hres
        clear hat hs2 hg2 hN2 hN' hje
        rcases hres with ⟨hr1, rfl⟩ | ⟨hr1, K, ck, he, hev, hfar⟩
        · obtain ⟨hkn, hE, hne⟩ : ¬ j < s.t.events.length ∧ ReadE b f x (s.t.names.length : Nat) = s.er ∧ s.er ≠ 0 := by
            rcases HTELL.out with h | h
            · exact absurd h.2.1 hr1
            · exact h
          obtain ⟨a1, a2⟩ := HR3.out
          rw [seek_end (k := ((m : Nat) : Int)) HE.out.1 (by omega) (by have := HJE.out; omega)] at a1 a2
          simp only at a1 a2
          rw [hE]
          obtain ⟨se, hse⟩ : ∃ se, s.er = se := ⟨_, rfl⟩
          rw [hse] at a1 hne ⊢
          subst a1 a2
          have h0' : ((se : Int) == 0) = false := by simp; omega
          have HEND := Lib.hid (show ∀ W, Below w2.heap.size w2 W → TurnL LandL b f w W g D N s from fun W hb =>
            ⟨D, N2, ⟨q, NA, nc, some ⟨r, 0, none⟩, n, c, pl, H2.out.below hb⟩, fun _ e => .inl e, HL2.out.trans (Left.of_below (D := D) hb) (fun _ e => .inl e), by have := HN2.out; have := HN1.out; omega⟩)
          have HBW := Lib.hid (show Below w2.heap.size w2 ((w2.alloc (.cells #[.int .u64 0, .slice none 0 0] 46)).alloc (.cells #[.int .i64 0, .int .i64 0, .int .i64 0, .int .u64 0, .int .i64 0] 72)) from ((Below.refl _ w2).alloc (Nat.le_refl _) _).alloc (by simp) _)
          clear hE hkn hr1 y0 y1 y2 y3 y4 hse hne HTELL HRD
          go_wp2_with fail
          go_ret
          exact ⟨rfl, HEND.out _ HBW.out⟩
        · obtain ⟨hkn, -, hV, hNx⟩ : j < s.t.events.length ∧ ReadE b f x (s.t.names.length : Nat) = 0 ∧ scanV b f (pl j : Nat) (s.t.names.length : Nat) = s.t.events.getD j noEv ∧ scanN b f (pl j : Nat) (s.t.names.length : Nat) = pl (j + 1) := by
            rcases HTELL.out with h | h
            · exact h
            · exact absurd (h.2.1.symm.trans hr1) h.2.2
          obtain ⟨X, hX⟩ : ∃ X, s.t.events.getD j noEv = X := ⟨_, rfl⟩
          obtain ⟨x2, hx2⟩ : ∃ x, hdOf s.t pl (id.toNat, j + 1) = x := ⟨_, rfl⟩
          have i1 : x2.id = x.id := by rw [← hx2, ← HX.out]; rfl
          have i2 : x2.at_ = ((pl (j + 1) : Nat) : Int) := by rw [← hx2]; rfl
          have i3 : x2.ix = x.ix + 1 := by rw [← hx2, ← HX.out]; rfl
          have i4 : x2.tm = X.time := by rw [← hx2, ← hX]; rfl
          have i5 : x2.ids = ((X.ids.length : Nat) : Int) := by rw [← hx2, ← hX]; rfl
          rw [hV, hNx, hX, ← i1, ← i2, ← i3, ← i4, ← i5, i4] at he
          subst he
          have HI := Lib.hid (And.intro hx2 i4)
          have HKN := Lib.hid hkn
          clear hx2 i1 i2 i3 i4 i5 hev hfar hV hNx hX hkn hr1 y0 y1 y2 y3 y4 HTELL HRD
          go_upto_region 14 with fail
          obtain ⟨W3, hW3⟩ : ∃ W3, ((w2.alloc (.cells #[.int .u64 X.time, .slice K X.ids.length ck] 46)).alloc (.cells #[.int .i64 x2.id, .int .i64 x2.at_, .int .i64 x2.ix, .int .u64 X.time, .int .i64 x2.ids] 72)) = W3 := ⟨_, rfl⟩
          have hb3 : Below w2.heap.size w2 W3 := by rw [← hW3]; exact ((Below.refl _ w2).alloc (Nat.le_refl _) _).alloc (by simp) _
          have hn3 : Blk W3 (w2.heap.size + 1) [.int .i64 x2.id, .int .i64 x2.at_, .int .i64 x2.ix, .int .u64 X.time, .int .i64 x2.ids] := by
            rw [← hW3]
            have e : w2.heap.size + 1 = (w2.alloc (.cells #[.int .u64 X.time, .slice K X.ids.length ck] 46)).heap.size := by simp
            rw [e]
            exact Blk.new _ _ _ _ rfl
          rw [hW3]
          clear hW3
          have hx3 := HX2.out.later hb3
          have n0 := hn3.cell 0 rfl
          have n1 := hn3.cell 1 rfl
          have n2 := hn3.cell 2 rfl
          have n3 := hn3.cell 3 rfl
          have n4 := hn3.cell 4 rfl
          have t0 := hx3.cell 0 rfl
          have t1 := hx3.cell 1 rfl
          have t2 := hx3.cell 2 rfl
          have t3 := hx3.cell 3 rfl
          have t4 := hx3.cell 4 rfl
          have tf0 := hx3.fz 0 rfl
          have tf1 := hx3.fz 1 rfl
          have tf2 := hx3.fz 2 rfl
          have tf3 := hx3.fz 3 rfl
          have tf4 := hx3.fz 4 rfl
          have HX4 := Lib.hid (((((hx3.set 0 (.int .i64 x2.id) (by simp [cellsHd])).set 1 (.int .i64 x2.at_) (by simp [cellsHd])).set 2 (.int .i64 x2.ix) (by simp [cellsHd])).set 3 (.int .u64 X.time) (by simp [cellsHd])).set 4 (.int .i64 x2.ids) (by simp [cellsHd]))
          have HBW := Lib.hid (show Below w.heap.size w2 (((((W3.setCell ⟨hh, 0, none⟩ (.int .i64 x2.id)).setCell ⟨hh, 1, none⟩ (.int .i64 x2.at_)).setCell ⟨hh, 2, none⟩ (.int .i64 x2.ix)).setCell ⟨hh, 3, none⟩ (.int .u64 X.time)).setCell ⟨hh, 4, none⟩ (.int .i64 x2.ids)) from
            ((((((hb3.mono hsz2).setCell (p := ⟨hh, 0, none⟩) hhw _).setCell (p := ⟨hh, 1, none⟩) hhw _).setCell (p := ⟨hh, 2, none⟩) hhw _).setCell (p := ⟨hh, 3, none⟩) hhw _).setCell (p := ⟨hh, 4, none⟩) hhw _))
          clear hb3 hx3 hn3
          go_upto_region 15 with fail
          generalize ((((W3.setCell ⟨hh, 0, none⟩ (.int .i64 x2.id)).setCell ⟨hh, 1, none⟩ (.int .i64 x2.at_)).setCell ⟨hh, 2, none⟩ (.int .i64 x2.ix)).setCell ⟨hh, 3, none⟩ (.int .u64 X.time)).setCell ⟨hh, 4, none⟩ (.int .i64 x2.ids) = W4 at HX4 HBW ⊢
          clear n0 n1 n2 n3 n4 t0 t1 t2 t3 t4 tf0 tf1 tf2 tf3 tf4
          go_wp2_with fail
          go_roundw
          case rel => exact ⟨j + 1, N2, by simp, by omega, HKN.out, by
            have h4 := HX4.out
            rw [HI.out.1]
            unfold cellsHd
            rw [HI.out.2]
            exact h4, H2.out.keep (fun a ha => HBW.out.block a (H.out.ln.lt a ha)) HBW.out.size, left_over HL2.out HBW.out, by have := HN2.out; have := HN1.out; omega⟩
          case measure => (show m - (j + 1) < m - j; omega)
      · obtain rfl : j = m := by omega
        obtain ⟨a1, a2⟩ := HR3.out
        rw [seek_some (k := ((j : Nat) : Int)) HE.out.1 (by omega) (by omega)] at a1 a2
        simp only at a1 a2
        subst a1
        obtain ⟨y, hy⟩ : ∃ y, hdOf s.t pl (id.toNat, k0) = y := ⟨_, rfl⟩
        have hid2 := ids_le hok.ids j
        have hid1 := ids_le hok.ids k0
        have j2 : x.ids = ((idsAt s.t j : Nat) : Int) := by rw [← hx]; rfl
        have j1 : y.ids = ((idsAt s.t k0 : Nat) : Int) := by rw [← hy]; rfl
        have hset := cells_set (t := s.t) (head_some HE.out.1).2.2 (some j)
        have c1 : cellP s.t (some k0) = 3 + idsAt s.t k0 := rfl
        have c2 : cellP s.t (some j) = 3 + idsAt s.t j := rfl
        have hxp := HXP.out
        rw [hy] at hxp
        have HMV := Lib.hid (moveC g r n c p _ _ _ _ _ _ (hdsL s.t pl s.hs) x y wr HLQ.out.blk HLQ.out.row HLQ.out.len (by omega) HLQ.out.nc hxp (by omega) (by omega) (by omega))
        have HS' := Lib.hid a2
        have HX := Lib.hid hx
        have HY := Lib.hid hy
        have HN1 := Lib.hid hN'
        have HEND := Lib.hid (show ∀ w4, Blk w4 g [.pointer (some ⟨q, 0, none⟩), .slice NA s.t.names.length nc, .int .i64 (pl 0 : Nat), .int .i64 s.size, .slice (some ⟨r, 0, none⟩) n c, .int .i64 (((cellsP s.t s.hs : Nat) : Int) + (x.ids - y.ids)), .int .i64 (max (s.peak : Int) (((cellsP s.t s.hs : Nat) : Int) + (x.ids - y.ids)))] →
          w4.ownsRow (g + 1) 72 5 (.slice (some ⟨r, 0, none⟩) n c) n (rowHd ((hdsL s.t pl s.hs).set p x)) → Left (fun k => k = g ∨ k = r) wr w4 → TurnL LandL b f w w4 g D N s' from fun w4 q1 q2 q3 => by
          have hL : LandL b f w4 g D N' s' := by
            rw [← HS'.out]
            rw [← HX.out, ← HY.out] at q1
            rw [← HX.out] at q2
            have e : ((j : Nat) : Int).toNat = j := Int.toNat_natCast j
            rw [e]
            exact move_turn j HLQ.out (head_some HE.out.1).2.2 HE.out.2.1 HE.out.2.2.1 HE.out.2.2.2 q1 q2 q3
          have hD : ∀ j, (j = g ∨ j = r) → D j := fun j e => by
            rcases e with rfl | rfl
            · exact H.out.ln.dg
            · exact H.out.dv j rfl
          exact ⟨D, N', hL, fun _ e => .inl e, HLE.out.trans (left_more q3 hD) (fun _ e => .inl e), by have := HN1.out; omega⟩)
        clear hxp hset c1 c2 j1 j2 hid1 hid2 hx hy a2
        go_wp2_with (go_at_call 32; refine HMV.out.mono ?_; rintro e w4 ⟨rfl, hb4, hr4, hl4⟩)
        go_ret
        exact ⟨rfl, HEND.out _ hb4 hr4 hl4⟩
  · obtain ⟨a1, a2⟩ := HR3.out
    rw [seek_none e1] at a1 a2
    simp only at a1 a2
    have HT := Lib.hid (turn_below (b := b) (f := f) (D := D) (N := N) ⟨q, NA, nc, A, n, c, pl, H.out⟩ hB1)
    subst a1 a2
    clear h1 h2 h3 hB1 HF e1
    go_wp2_with fail
    go_ret
    exact ⟨rfl, HT.out⟩
end Go.Proofs.Ytimbbfneaaglbaa.Heads

namespace Go.Proofs.Ytimbbfneaaglbaa.Heads
open Go.RowKit Go.Proofs.Ytimbbfneaaglbaa.Ints Go.Proofs.Ytimbbfneaaglbaa.Mem Go.Proofs.Ytimbbfneaaglbaa.Trace Go.Proofs.Ytimbbfneaaglbaa.Record Go.Proofs.Ytimbbfneaaglbaa.Log Go.Proofs.Ytimbbfneaaglbaa.Src Go.Proofs.Ytimbbfneaaglbaa.Scan

/-- What the landed New leaves. -/
def GotNew (zs : List Int) (f : Nat) (size : Int) (w : World) (e : Ending) (w' : World) : Prop := Below w.heap.size w w' ∧
      ((newE zs f size ≠ 0 ∧ e = .returned (.tuple #[.pointer none, .int .i64 (newE zs f size : Nat)])) ∨
       (newE zs f size = 0 ∧ ∃ g D N, e = .returned (.tuple #[.pointer (some ⟨g, 0, none⟩), .int .i64 0]) ∧ LandL zs f w' g D N (startP zs f size) ∧ (∀ q, D q → w.heap.size ≤ q) ∧ N ≤ 1099511627776))
theorem new_pool {zs sc : List Int} {f N : Nat} {size : Int} {w w1 w2 : World} {q : Nat} {A1 : Option Addr} {c1 : Nat} (hlen : zs.length ≤ 58000000) (hsz : ¬ size < 1) (hE : headE zs f = 0) (hb1 : Below w.heap.size w w1) (hq : w.heap.size ≤ q) (hq1 : q < w1.heap.size)
    (hown : w2.ownsRow w1.heap.size 9 1 (.slice A1 (headF zs f).1.length c1) (headF zs f).1.length ((headF zs f).1.map strS)) (hs : LSrc (fun b => w.heap.size ≤ b ∧ b < w1.heap.size ∧ b ≠ q) w2 q zs sc f N) (hN : N ≤ 0 + zs.length) (hg : w1.grownBy w2 (some q)) :
    GotNew zs f size w (.returned (.tuple #[.pointer (some ⟨w2.heap.size, 0, none⟩), .int .i64 0])) (w2.alloc (.cells #[.pointer (some ⟨q, 0, none⟩), .slice A1 (headF zs f).1.length c1, .int .i64 ((headF zs f).2.1 : Nat), .int .i64 size, .slice none 0 0, .int .i64 0, .int .i64 0] 66)) := by
  have hf := hs.le
  obtain ⟨hr1, hr2, -, hr4, hr5⟩ := recs_good hf hE
  obtain ⟨hwk, hple⟩ := walk_start hf hE
  have hn64 : (headF zs f).1.length ≤ 64 := by
    unfold headF
    exact (head_names (by split <;> decide)).1
  obtain ⟨hl1, hst, hnc, hcm⟩ := strs_own hown
  have hsz1 := hg.size
  have hsz0 := hb1.size
  have hne : newE zs f size = 0 := by unfold newE; rw [if_neg hsz]; exact hE
  obtain ⟨W, hW⟩ : ∃ W, w2.alloc (.cells #[.pointer (some ⟨q, 0, none⟩), .slice A1 (headF zs f).1.length c1, .int .i64 ((headF zs f).2.1 : Nat), .int .i64 size, .slice none 0 0, .int .i64 0, .int .i64 0] 66) = W := ⟨_, rfl⟩
  have hal : Below w2.heap.size w2 W := by rw [← hW]; exact (Below.refl _ w2).alloc (Nat.le_refl _) _
  have hzW : W.heap.size = w2.heap.size + 1 := by rw [← hW]; simp
  have hblk : Blk W w2.heap.size [.pointer (some ⟨q, 0, none⟩), .slice A1 (headF zs f).1.length c1, .int .i64 ((headF zs f).2.1 : Nat), .int .i64 size, .slice none 0 0, .int .i64 0, .int .i64 0] := by rw [← hW]; exact Blk.new w2 _ _ _ rfl
  have hbw : Below w.heap.size w W := ⟨hal.os.trans (hg.os.trans hb1.os), hal.tape.trans (hg.tape.trans hb1.tape), hal.output.trans (hg.output.trans hb1.output), by omega, fun b hb => (hal.block b (by omega)).trans ((hg.block b (by omega) (fun e => by injection e with e; omega)).trans (hb1.block b hb))⟩
  rw [hW]
  refine ⟨hbw, .inr ⟨hne, w2.heap.size, fun k => w.heap.size ≤ k ∧ k < W.heap.size, N, rfl, ?_, fun k e => e.1, by omega⟩⟩
  refine ⟨q, A1, c1, none, 0, 0, placeD (zs.take f) (headF zs f).2.1, ⟨?_, ⟨⟨sc, ?_⟩, by omega, ⟨hq, by omega⟩, ?_, ⟨?_, hcm⟩, fun a e h0 => ?_, ⟨by omega, by omega⟩, fun k e => e.2, hlen, ?_⟩, ?_, rfl, fun k e => (by cases e), hwk⟩⟩
  · show Blk W w2.heap.size [.pointer (some ⟨q, 0, none⟩), .slice A1 (recordsF zs f).1.names.length c1, .int .i64 ((headF zs f).2.1 : Nat), .int .i64 size, .slice none 0 0, .int .i64 0, .int .i64 0]
    rw [hr1]
    exact hblk
  · exact (hs.below hal).mono (fun k e => ⟨⟨e.1, by omega⟩, by omega, e.2.2⟩) (fun e => e.2.2 rfl)
  · show Strs W A1 (recordsF zs f).1.names
    rw [hr1]
    exact hst.below hal
  · show (recordsF zs f).1.names.length ≤ c1
    rw [hr1]
    exact hnc
  · have h0' : 0 < (headF zs f).1.length := by
      have h0 : 0 < (recordsF zs f).1.names.length := h0
      rwa [hr1] at h0
    subst e
    have h1 := hown.lt a.block rfl
    exact ⟨⟨by omega, by omega⟩, h1.2, by omega⟩
  · show (recordsF zs f).1.names.length ≤ 64
    rw [hr1]
    exact hn64
  · exact World.ownsRow_nil _ _ _ _
set_option maxHeartbeats 8000000 in
set_option maxRecDepth 100000 in
theorem land_new (A : Option Addr) (n c : Nat) (zs : List Int) (B : Option Addr) (m d : Nat) (sc : List Int) (fault size : Int) (w : World) (hnc : n ≤ c) (hc : c ≤ maxLen) (h : Rd .u8 w A n zs) (hs : Rd .i64 w B m sc) (hn : n ≤ 58000000) (hm : m * 8 ≤ 140737488351232) :
    Calls Try.prog 9 #[.slice A n c, .slice B m d, .int .i64 fault, .int .i64 size] w (GotNew zs (faultP n fault) size w) := by
  have hl := h.len
  have HNEW := Lib.hid (landNew A n c zs B m d sc fault w hnc hc h hs (by omega) hm)
  have HB0 := Lib.hid (Below.refl w.heap.size w)
  have HLEN := Lib.hid (show zs.length ≤ 58000000 by omega)
  obtain ⟨f, hf⟩ : ∃ f, faultP n fault = f := ⟨_, rfl⟩
  rw [hf] at HNEW ⊢
  clear h hs hf hl
  by_cases hsz : size < 1
  · have HE := Lib.hid (show newE zs f size = 1 by unfold newE; rw [if_pos hsz])
    go_enter Try.func9, Try.ntmps9
    go_wp2_with fail
    refine bodyPost_ret (v := .tuple #[.pointer none, .int .i64 1]) (by simp [results, Try.results9, go_sem]) rfl ?_
    unfold GotNew
    rw [HE.out]
    exact ⟨HB0.out, .inl ⟨by decide, rfl⟩⟩
  have HSZ := Lib.hid hsz
  go_enter Try.func9, Try.ntmps9
  go_wp2_with fail
  refine HNEW.out.mono ?_
  rintro e w1 ⟨q, rfl, hs1, hq, hb1⟩
  have hql := hs1.lt
  have HHD := Lib.hid (landHd _ q zs sc f 0 w1 hs1 (by omega) (by have := HLEN.out; omega))
  have HB1 := Lib.hid hb1
  clear hs1 hb1
  go_wp2_with fail
  refine HHD.out.mono ?_
  rintro e w2 ⟨A1, c1, N', rfl, hown, hs2, hN', hg2⟩
  obtain ⟨er, her⟩ : ∃ er, (headF zs f).2.2 = er := ⟨_, rfl⟩
  have hE : headE zs f = er := her
  rw [her]
  by_cases h0 : er = 0
  · subst h0
    have HEND := Lib.hid (new_pool (size := size) HLEN.out (by have := HSZ.out; omega) hE HB1.out hq hql hown hs2 hN' hg2)
    clear hown hs2 hN' hg2 her hE
    go_wp2_with fail
    refine bodyPost_ret (v := .tuple #[.pointer (some ⟨w2.heap.size, 0, none⟩), .int .i64 0]) (by simp [results, Try.results9, go_sem]) rfl ?_
    exact HEND.out
  · have h0' : ((er : Int) == 0) = false := by simp; omega
    have HE := Lib.hid (show newE zs f size = er by unfold newE; rw [if_neg (show ¬ size < 1 by have := HSZ.out; omega)]; exact hE)
    have HBW := Lib.hid (show Below w.heap.size w w2 from ⟨hg2.os.trans HB1.out.os, hg2.tape.trans HB1.out.tape, hg2.output.trans HB1.out.output, Nat.le_trans HB1.out.size hg2.size, fun b hb => (hg2.block b (by have := HB1.out.size; omega) (fun e => by injection e with e; omega)).trans (HB1.out.block b hb)⟩)
    clear hown hs2 hN' hg2 her hE
    go_wp2_with fail
    refine bodyPost_ret (v := .tuple #[.pointer none, .int .i64 (er : Nat)]) (by simp [results, Try.results9, go_sem]) rfl ?_
    unfold GotNew
    rw [HE.out]
    exact ⟨HBW.out, .inl ⟨h0, rfl⟩⟩
end Go.Proofs.Ytimbbfneaaglbaa.Heads

namespace Go.Proofs.Ytimbbfneaaglbaa.Heads
open Go.RowKit Go.Proofs.Ytimbbfneaaglbaa.Ints Go.Proofs.Ytimbbfneaaglbaa.Mem Go.Proofs.Ytimbbfneaaglbaa.Trace Go.Proofs.Ytimbbfneaaglbaa.Record Go.Proofs.Ytimbbfneaaglbaa.Log Go.Proofs.Ytimbbfneaaglbaa.Src Go.Proofs.Ytimbbfneaaglbaa.Scan

theorem landPool : ∃ L : LPool, PoolC L := ⟨LandL, {
  keep := land_keep
  lt := fun b f w g D N s h => by
    obtain ⟨q, NA, nc, A, n, c, pl, h⟩ := h
    exact ⟨h.ln.dg, h.ln.lt⟩
  new := fun A n c zs B m d sc fault size w hnc hc h hs hn hm _ _ => land_new A n c zs B m d sc fault size w hnc hc h hs hn hm
  open_ := fun b f w g D N s h hok hl _ => land_open b f w g D N s h hok hl
  clone := fun b f w g D N s id h hok hl _ _ => land_clone b f w g D N s id h hok hl
  next := fun b f w g D N s id h hok hl hN _ => land_next b f w g D N s id h hok hl hN
  seek := fun b f w g D N s id k h hok hl hN _ hk => land_seek b f w g D N s id k h hok hl hN hk
  close := fun b f w g D N s id h hok hl _ _ => land_close b f w g D N s id h hok hl
  index := fun b f w g D N s id h _ hl _ _ => land_index b f w g D N s id h hl
  count := fun b f w g D N s h _ _ _ => land_count b f w g D N s h
  cells := fun b f w g D N s h _ _ _ => land_cells b f w g D N s h
  peak := fun b f w g D N s h _ _ _ => land_peak b f w g D N s h
  names := fun b f w g D N s h _ _ _ => land_names b f w g D N s h }⟩
end Go.Proofs.Ytimbbfneaaglbaa.Heads
