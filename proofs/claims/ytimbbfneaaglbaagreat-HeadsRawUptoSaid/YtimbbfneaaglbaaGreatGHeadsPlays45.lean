/- Stage 13. By an AI agent. -/
import Derived.Test.YtimbbfneaaglbaaGreatGHeadsPlays44
import Derived.Deep.Cut
namespace Go.Proofs.YtimbbfneaaglbaaGreat.Heads
open Go.RowKit Go.Proofs.YtimbbfneaaglbaaGreat.Ints Go.Proofs.YtimbbfneaaglbaaGreat.Mem Go.Proofs.YtimbbfneaaglbaaGreat.Trace Go.Proofs.YtimbbfneaaglbaaGreat.Record Go.Proofs.YtimbbfneaaglbaaGreat.Log Go.Proofs.YtimbbfneaaglbaaGreat.Src Go.Proofs.YtimbbfneaaglbaaGreat.Scan

theorem left_over {D : Nat → Prop} {w w2 W : World} (h : Left D w w2) (hb : Below w.heap.size w2 W) : Left D w W :=
  ⟨hb.os.trans h.os, hb.tape.trans h.tape, hb.output.trans h.output, Nat.le_trans h.size hb.size, fun q hq hn => (hb.block q hq).trans (h.block q hq hn)⟩
theorem land_keep (b : List Int) (f : Nat) (w w' : World) (g : Nat) (D : Nat → Prop) (N : Nat) (s : PS) (h : LandL b f w g D N s) (hk : ∀ q, D q → w'.heap[q]? = w.heap[q]?) (hs : w.heap.size ≤ w'.heap.size) : LandL b f w' g D N s := by
  obtain ⟨q, NA, nc, A, n, c, pl, h⟩ := h
  exact ⟨q, NA, nc, A, n, c, pl, h.keep hk hs⟩
set_option maxHeartbeats 8000000 in
set_option maxRecDepth 100000 in
theorem land_next (b : List Int) (f : Nat) (w : World) (g : Nat) (D : Nat → Prop) (N : Nat) (s : PS) (id : Int) (h : LandL b f w g D N s) (hok : OkP s) (hl : s.hs.length ≤ 100000) (hN : N ≤ 2305843009213693952) :
    Calls Tryz.prog 48 #[.pointer (some ⟨g, 0, none⟩), .int .i64 id] w (GotNextL LandL b f w g D N (nextP s id).1 (nextP s id).2.1 (nextP s id).2.2) := by
  obtain ⟨q, NA, nc, A, n, c, pl, h⟩ := h
  have hn : n = countP s.hs := by rw [← h.len, hds_len]
  have hnl := count_le s.hs
  have hcl := cells_bd hok hl
  have hg0 := h.blk.1
  obtain ⟨T, hT⟩ : ∃ T, w.alloc (.cells #[.int .u64 0, .slice none 0 0] 38) = T := ⟨_, rfl⟩
  have hal : Below w.heap.size w T := by rw [← hT]; exact (Below.refl _ w).alloc (Nat.le_refl _) _
  have hz : T.heap.size = w.heap.size + 1 := by rw [← hT]; simp
  have hbT : Blk T w.heap.size [.int .u64 0, .slice none 0 0] := by rw [← hT]; exact Blk.new w _ _ _ rfl
  have HF := Lib.hid (find_land g A n c (hdsL s.t pl s.hs) id _ _ _ _ _ _ T (h.below hal).blk h.len (by omega) h.nc (RdH.own (h.below hal).row h.len) (hds_sorted s.t pl s.hs))
  have H := Lib.hid h
  have HAL := Lib.hid hal
  have HBT := Lib.hid hbT
  have HZ := Lib.hid hz
  obtain ⟨X, hX⟩ : ∃ r, (nextP s id).1 = r := ⟨_, rfl⟩
  obtain ⟨er, her⟩ : ∃ r, (nextP s id).2.1 = r := ⟨_, rfl⟩
  obtain ⟨s', hs'⟩ : ∃ r, (nextP s id).2.2 = r := ⟨_, rfl⟩
  rw [hX, her, hs']
  have HR3 := Lib.hid (And.intro hX (And.intro her hs'))
  have HNN := Lib.hid (And.intro hn hnl)
  have hnb : n ≤ 100000 := by omega
  clear h hX her hs' hal hbT hz hn hnl
  go_enter Tryz.func48, Tryz.ntmps48
  go_wp2_with fail
  try rw [hT]
  refine HF.out.mono ?_
  rintro e w1 ⟨p, bb, rfl, h1, h2, h3, hB1⟩
  have HB1 := Lib.hid (HAL.out.trans (hB1.mono HAL.out.size))
  have HT1 := Lib.hid (HBT.out.later hB1)
  have hsz1 : w.heap.size < w1.heap.size := HT1.out.1
  rcases find_tells h1 h2 h3 with ⟨rfl, k, A1, B1, e1, e2, e3, e4, e5⟩ | ⟨rfl, e1⟩
  · have H1 := Lib.hid (H.out.below HB1.out)
    have hxp : (hdsL s.t pl s.hs)[p]? = some (hdOf s.t pl (id.toNat, k)) := hds_get (by rw [e2, ← e3, List.getElem?_append_right (Nat.le_refl _), Nat.sub_self]; rfl)
    have hk := hok.at_ _ _ (head_some e1).2.2
    obtain ⟨sc, hrd⟩ := H1.out.readC (by omega) id.toNat k hk
    have htell := read_tells H1.out.walk id.toNat hk
    obtain ⟨x, hx⟩ : ∃ x, hdOf s.t pl (id.toNat, k) = x := ⟨_, rfl⟩
    rw [hx] at hxp hrd htell
    obtain ⟨r, rfl, y0, y1, y2, y3, y4, hpn⟩ := H1.out.at_ hxp
    have b4 := H1.out.blk.cell 4 rfl
    have hxid : x.id = id := by rw [← hx]; show ((id.toNat : Nat) : Int) = id; have := (head_some e1).1; omega
    have HRD := Lib.hid hrd
    have HTELL := Lib.hid htell
    have HX := Lib.hid hx
    have HXP := Lib.hid hxp
    have HXID := Lib.hid hxid
    have HE := Lib.hid (And.intro e1 (And.intro e2 (And.intro e3 e4)))
    have HK := Lib.hid hk
    have hpb : p ≤ 100000 := by omega
    clear h1 h2 h3 e1 e2 e3 e4 e5 hx hxp hrd htell hB1 HF hk hxid
    go_wp2_with fail
    refine HRD.out.mono ?_
    rintro e w2 ⟨N', hs2, hN', hg2, hres⟩
    have H2 := Lib.hid (H1.out.read hs2 hg2)
    have HT2 := Lib.hid (HT1.out.grown hg2 (fun e => by injection e with e; have := H.out.ln.lt q H.out.ln.dq; omega))
    have hsz2 := hg2.size
    have HG2 := Lib.hid hg2
    have HN' := Lib.hid hN'
    have hat : x.at_ = ((pl k : Nat) : Int) := by rw [← HX.out]; rfl
    simp only [hat] at hres
    clear hat hs2 hg2 hN'
    rcases hres with ⟨hr1, rfl⟩ | ⟨hr1, K, ck, he, hev, hfar⟩
    · obtain ⟨hkn, hE, hne⟩ : ¬ k < s.t.events.length ∧ ReadE b f x (s.t.names.length : Nat) = s.er ∧ s.er ≠ 0 := by
        rcases HTELL.out with h | h
        · exact absurd h.2.1 hr1
        · exact h
      obtain ⟨a1, a2, a3⟩ := HR3.out
      rw [next_end HE.out.1 hkn] at a1 a2 a3
      simp only at a1 a2 a3
      rw [hE]
      obtain ⟨se, hse⟩ : ∃ se, s.er = se := ⟨_, rfl⟩
      rw [hse] at a2 hne ⊢
      subst a1 a2 a3
      have hu0 := (HT2.out.alloc (.cells #[.int .u64 0, .slice none 0 0] 38)).alloc (.cells #[.int .i64 0, .int .i64 0, .int .i64 0, .int .u64 0, .int .i64 0] 78)
      have hu := (hu0.set 0 (.int .u64 0) (by simp)).set 1 (.slice none 0 0) (by simp)
      have HU := Lib.hid hu
      have t0 := hu0.cell 0 rfl
      have t1 := hu0.cell 1 rfl
      have tf0 := hu0.fz 0 rfl
      have tf1 := hu0.fz 1 rfl
      have h0' : ((se : Int) == 0) = false := by simp; omega
      have HBW := Lib.hid (show Below w.heap.size w2 ((((w2.alloc (.cells #[.int .u64 0, .slice none 0 0] 38)).alloc (.cells #[.int .i64 0, .int .i64 0, .int .i64 0, .int .u64 0, .int .i64 0] 78)).setCell ⟨w.heap.size, 0, none⟩ (.int .u64 0)).setCell ⟨w.heap.size, 1, none⟩ (.slice none 0 0)) from
        (((((Below.refl w.heap.size w2).alloc (by omega) _).alloc (by simp; omega) _).setCell (p := ⟨w.heap.size, 0, none⟩) (Nat.le_refl _) _).setCell (p := ⟨w.heap.size, 1, none⟩) (Nat.le_refl _) _))
      have HEND := Lib.hid (show ∀ W, Below w.heap.size w2 W → GotNextL LandL b f w g D N noEv se s (.returned (.tuple #[.agg #[.int .u64 0, .slice none 0 0], .int .i64 (se : Nat)])) W from fun W hb =>
        ⟨none, 0, D, N', rfl, ⟨rfl, Rd.nil _ _ _, Nat.le_refl _, by decide⟩, (fun a e => by cases e), ⟨q, NA, nc, some ⟨r, 0, none⟩, n, c, pl, H2.out.keep (fun j hj => hb.block j (H.out.ln.lt j hj)) hb.size⟩, fun _ e => .inl e,
          left_over ((Left.of_below HB1.out).trans (left_read HG2.out H.out.ln.dq) (fun _ e => .inl e)) hb, by have := HN'.out; omega⟩)
      clear hu0 hu hE hkn hr1 y0 y1 y2 y3 y4 b4 hse hne HTELL HRD
      go_wp2_with fail
      have z0 := HU.out.cell 0 rfl
      have z1 := HU.out.cell 1 rfl
      refine bodyPost_ret (v := .tuple #[.agg #[.int .u64 0, .slice none 0 0], .int .i64 (se : Nat)]) (by simp [results, Tryz.results48, go_sem, z0, z1]) rfl ?_
      exact HEND.out _ HBW.out
    · obtain ⟨hkn, -, hV, hNx⟩ : k < s.t.events.length ∧ ReadE b f x (s.t.names.length : Nat) = 0 ∧ scanV b f (pl k : Nat) (s.t.names.length : Nat) = s.t.events.getD k noEv ∧ scanN b f (pl k : Nat) (s.t.names.length : Nat) = pl (k + 1) := by
        rcases HTELL.out with h | h
        · exact h
        · exact absurd (h.2.1.symm.trans hr1) h.2.2
      obtain ⟨a1, a2, a3⟩ := HR3.out
      rw [next_some HE.out.1 hkn] at a1 a2 a3
      simp only at a1 a2 a3
      obtain ⟨x2, hx2⟩ : ∃ x, hdOf s.t pl (id.toNat, k + 1) = x := ⟨_, rfl⟩
      have i1 : x2.id = x.id := by rw [← hx2, ← HX.out]; rfl
      have i2 : x2.at_ = ((pl (k + 1) : Nat) : Int) := by rw [← hx2]; rfl
      have i3 : x2.ix = x.ix + 1 := by rw [← hx2, ← HX.out]; rfl
      have i4 : x2.tm = X.time := by rw [← hx2, ← a1]; rfl
      have i5 : x2.ids = ((X.ids.length : Nat) : Int) := by rw [← hx2, ← a1]; rfl
      rw [hV, a1] at hev
      rw [hV, hNx, a1, ← i1, ← i2, ← i3, ← i4, ← i5, i4] at he
      subst he
      subst a2
      have hid2 := ids_le hok.ids (k + 1)
      have hid1 := ids_le hok.ids k
      have j2 : x2.ids = ((idsAt s.t (k + 1) : Nat) : Int) := by rw [← hx2]; rfl
      have j1 : x.ids = ((idsAt s.t k : Nat) : Int) := by rw [← HX.out]; rfl
      have hset := cells_set (t := s.t) (head_some HE.out.1).2.2 (some (k + 1))
      have c1 : cellP s.t (some k) = 3 + idsAt s.t k := rfl
      have c2 : cellP s.t (some (k + 1)) = 3 + idsAt s.t (k + 1) := rfl
      have hb3 : Below w2.heap.size w2 ((w2.alloc (.cells #[.int .u64 X.time, .slice K X.ids.length ck] 38)).alloc (.cells #[.int .i64 x2.id, .int .i64 x2.at_, .int .i64 x2.ix, .int .u64 X.time, .int .i64 x2.ids] 78)) := ((Below.refl _ w2).alloc (Nat.le_refl _) _).alloc (by simp) _
      have HMV := Lib.hid (moveC g r n c p _ _ _ _ _ _ (hdsL s.t pl s.hs) x2 x ((w2.alloc (.cells #[.int .u64 X.time, .slice K X.ids.length ck] 38)).alloc (.cells #[.int .i64 x2.id, .int .i64 x2.at_, .int .i64 x2.ix, .int .u64 X.time, .int .i64 x2.ids] 78)) (H2.out.below hb3).blk (H2.out.below hb3).row H2.out.len (by omega) H2.out.nc HXP.out (by omega) (by omega) (by omega))
      rw [i4] at HMV
      have hbe := (Blk.new w2 #[.int .u64 X.time, .slice K X.ids.length ck] 38 [.int .u64 X.time, .slice K X.ids.length ck] rfl).alloc (.cells #[.int .i64 x2.id, .int .i64 x2.at_, .int .i64 x2.ix, .int .u64 X.time, .int .i64 x2.ids] 78)
      have HBE := Lib.hid hbe
      have HT3 := Lib.hid (HT2.out.later hb3)
      have HB3 := Lib.hid hb3
      have hrl := H.out.ln.lt r (H.out.dv r rfl)
      have HEV := Lib.hid hev
      have HFAR := Lib.hid hfar
      have HX2 := Lib.hid hx2
      have HS' := Lib.hid a3
      have HEND := Lib.hid (show ∀ w4 W, Blk w4 g [.pointer (some ⟨q, 0, none⟩), .slice NA s.t.names.length nc, .int .i64 (pl 0 : Nat), .int .i64 s.size, .slice (some ⟨r, 0, none⟩) n c, .int .i64 (((cellsP s.t s.hs : Nat) : Int) + (x2.ids - x.ids)), .int .i64 (max (s.peak : Int) (((cellsP s.t s.hs : Nat) : Int) + (x2.ids - x.ids)))] →
          w4.ownsRow (g + 1) 78 5 (.slice (some ⟨r, 0, none⟩) n c) n (rowHd ((hdsL s.t pl s.hs).set p x2)) → Left (fun k => k = g ∨ k = r) ((w2.alloc (.cells #[.int .u64 X.time, .slice K X.ids.length ck] 38)).alloc (.cells #[.int .i64 x2.id, .int .i64 x2.at_, .int .i64 x2.ix, .int .u64 X.time, .int .i64 x2.ids] 78)) w4 → Below w.heap.size w4 W → (∀ j, j < w2.heap.size → j ≠ w.heap.size → W.heap[j]? = w4.heap[j]?) →
          GotNextL LandL b f w g D N X 0 s' (.returned (.tuple #[.agg #[.int .u64 X.time, .slice K X.ids.length ck], .int .i64 0])) W from fun w4 W q1 q2 q3 hb hoff => by
        have hL : LandL b f w4 g D N' s' := by
          rw [← HS'.out]
          have q3' : Left (fun k => k = g ∨ k = r) ((w2.alloc (.cells #[.int .u64 X.time, .slice K X.ids.length ck] 38)).alloc (.cells #[.int .i64 x2.id, .int .i64 x2.at_, .int .i64 x2.ix, .int .u64 X.time, .int .i64 x2.ids] 78)) w4 := q3
          rw [← HX2.out, ← HX.out] at q1
          rw [← HX2.out] at q2
          exact move_turn (k + 1) (H2.out.below HB3.out) (head_some HE.out.1).2.2 HE.out.2.1 HE.out.2.2.1 HE.out.2.2.2 q1 q2 q3'
        have hD : ∀ j, (j = g ∨ j = r) → D j := fun j e => by
          rcases e with rfl | rfl
          · exact H.out.ln.dg
          · exact H.out.dv j rfl
        have hl4 : Left D w w4 := (((Left.of_below HB1.out).trans (left_read HG2.out H.out.ln.dq) (fun _ e => .inl e)).trans (Left.of_below (D := D) HB3.out) (fun _ e => .inl e)).trans (left_more q3 hD) (fun _ e => .inl e)
        refine ⟨K, ck, D, N', rfl, evok_at HEV.out (fun a e h0 => ?_), fun a e => ?_, land_keep b f w4 W g D N' s' hL (fun j hj => hb.block j (H.out.ln.lt j hj)) hb.size, fun _ e => .inl e, left_over hl4 hb, by have := HN'.out; omega⟩
        · have ha1 := HFAR.out a e
          have ha2 := rd_lt HEV.out.2.1 a e h0
          rw [hoff a.block ha2 (by omega), q3.block a.block (Nat.lt_of_lt_of_le ha2 HB3.out.size) (by rintro (e2 | e2) <;> omega)]
          exact HB3.out.block a.block ha2
        · have ha1 := HFAR.out a e
          exact ⟨by omega, fun e2 => by have := H.out.ln.lt _ e2; omega⟩)
      clear hb3 hbe hx2 i1 i2 i3 i4 i5 j1 j2 hid1 hid2 hset c1 c2 hev hfar hV hNx a1 a3 hkn hr1 y0 y1 y2 y3 y4 b4 HTELL HRD HR3
      have hgne : g ≠ w2.heap.size := by omega
      have hrne : r ≠ w2.heap.size := by omega
      have hgw : w.heap.size ≠ g := by omega
      have hrw : w.heap.size ≠ r := by omega
      go_wp2_with (go_at_call 78; refine HMV.out.mono ?_; rintro e w4 ⟨rfl, hb4, hr4, hl4⟩; have k8 := HBE.out.same hl4.size (hl4.block _ HBE.out.1 (by rintro (e | e) <;> omega)); have k80 := k8.cell 0 rfl; have k81 := k8.cell 1 rfl; have k9 := HT3.out.same hl4.size (hl4.block _ HT3.out.1 (by rintro (e | e) <;> omega)); have t0 := k9.cell 0 rfl; have t1 := k9.cell 1 rfl; have tf0 := k9.fz 0 rfl; have tf1 := k9.fz 1 rfl)
      have hu := (k9.set 0 (.int .u64 X.time) (by simp)).set 1 (.slice K X.ids.length ck) (by simp)
      have z0 := hu.cell 0 rfl
      have z1 := hu.cell 1 rfl
      refine bodyPost_ret (v := .tuple #[.agg #[.int .u64 X.time, .slice K X.ids.length ck], .int .i64 0]) (by simp [results, Tryz.results48, go_sem, z0, z1]) rfl ?_
      exact HEND.out w4 _ hb4 hr4 hl4 (((Below.refl _ w4).setCell (p := ⟨w.heap.size, 0, none⟩) (Nat.le_refl _) _).setCell (p := ⟨w.heap.size, 1, none⟩) (Nat.le_refl _) _) (fun j hj hjw => by rw [Below.heap_setCell _ _ _ j hjw, Below.heap_setCell _ _ _ j hjw])
  · obtain ⟨a1, a2, a3⟩ := HR3.out
    rw [next_none e1] at a1 a2 a3
    simp only at a1 a2 a3
    subst a1 a2 a3
    have hu := (HT1.out.set 0 (.int .u64 0) (by simp)).set 1 (.slice none 0 0) (by simp)
    have z0 := hu.cell 0 rfl
    have z1 := hu.cell 1 rfl
    have t0 := HT1.out.cell 0 rfl
    have t1 := HT1.out.cell 1 rfl
    have tf0 := HT1.out.fz 0 rfl
    have tf1 := HT1.out.fz 1 rfl
    have HEND := Lib.hid (show Below w.heap.size w ((w1.setCell ⟨w.heap.size, 0, none⟩ (.int .u64 0)).setCell ⟨w.heap.size, 1, none⟩ (.slice none 0 0)) from (HB1.out.setCell (p := ⟨w.heap.size, 0, none⟩) (Nat.le_refl _) _).setCell (p := ⟨w.heap.size, 1, none⟩) (Nat.le_refl _) _)
    clear h1 h2 h3 e1 hB1 HF hu
    go_wp2_with fail
    refine bodyPost_ret (v := .tuple #[.agg #[.int .u64 0, .slice none 0 0], .int .i64 11]) (by simp [results, Tryz.results48, go_sem, z0, z1]) rfl ?_
    exact ⟨none, 0, D, N, rfl, ⟨rfl, Rd.nil _ _ _, Nat.le_refl _, by decide⟩, (fun a e => by cases e), ⟨q, NA, nc, A, n, c, pl, H.out.below HEND.out⟩, fun _ e => .inl e, Left.of_below HEND.out, Nat.le_add_right _ _⟩
end Go.Proofs.YtimbbfneaaglbaaGreat.Heads

namespace Go.Proofs.YtimbbfneaaglbaaGreat.Heads
open Go.RowKit Go.Proofs.YtimbbfneaaglbaaGreat.Ints Go.Proofs.YtimbbfneaaglbaaGreat.Mem Go.Proofs.YtimbbfneaaglbaaGreat.Trace Go.Proofs.YtimbbfneaaglbaaGreat.Record Go.Proofs.YtimbbfneaaglbaaGreat.Log Go.Proofs.YtimbbfneaaglbaaGreat.Src Go.Proofs.YtimbbfneaaglbaaGreat.Scan

theorem seek_none {s : PS} {id k : Int} (h : headP s.hs id = none) : seekP s id k = (11, s) := by unfold seekP; rw [h]
theorem seek_neg {s : PS} {id k : Int} {j : Nat} (h : headP s.hs id = some j) (hk : k < 0) : seekP s id k = (1, s) := by unfold seekP; rw [h]; simp only; rw [if_pos hk]
theorem seek_end {s : PS} {id k : Int} {j : Nat} (h : headP s.hs id = some j) (hk : ¬ k < 0) (hl : (s.t.events.length : Int) < k) : seekP s id k = (s.er, s) := by unfold seekP; rw [h]; simp only; rw [if_neg hk, if_pos hl]
theorem seek_some {s : PS} {id k : Int} {j : Nat} (h : headP s.hs id = some j) (hk : ¬ k < 0) (hl : ¬ (s.t.events.length : Int) < k) : seekP s id k = (0, meterP { s with hs := s.hs.set id.toNat (some k.toNat) }) := by unfold seekP; rw [h]; simp only; rw [if_neg hk, if_neg hl]
set_option maxHeartbeats 16000000 in
set_option maxRecDepth 100000 in
theorem land_seek (b : List Int) (f : Nat) (w : World) (g : Nat) (D : Nat → Prop) (N : Nat) (s : PS) (id k : Int) (h : LandL b f w g D N s) (hok : OkP s) (hl : s.hs.length ≤ 100000) (hN : N ≤ 2305843009213693952) (hk : small64 k) :
    Calls Tryz.prog 51 #[.pointer (some ⟨g, 0, none⟩), .int .i64 id, .int .i64 k] w fun e w' => e = .returned (.int .i64 ((seekP s id k).1 : Nat)) ∧ TurnL LandL b f w w' g D N (seekP s id k).2 := by
  obtain ⟨hk1, hk2⟩ := hk
  obtain ⟨q, NA, nc, A, n, c, pl, h⟩ := h
  have hn : n = countP s.hs := by rw [← h.len, hds_len]
  have hnl := count_le s.hs
  have hcl := cells_bd hok hl
  have HF := Lib.hid (find_land g A n c (hdsL s.t pl s.hs) id _ _ _ _ _ _ w h.blk h.len (by omega) h.nc (RdH.own h.row h.len) (hds_sorted s.t pl s.hs))
  have H := Lib.hid h
  obtain ⟨er, her⟩ : ∃ r, (seekP s id k).1 = r := ⟨_, rfl⟩
  obtain ⟨s', hs'⟩ : ∃ r, (seekP s id k).2 = r := ⟨_, rfl⟩
  rw [her, hs']
  have HR3 := Lib.hid (And.intro her hs')
  have hnb : n ≤ 100000 := by omega
  clear h her hs' hn hnl
  go_enter Tryz.func51, Tryz.ntmps51
  go_wp2_with fail
  refine HF.out.mono ?_
  rintro e w1 ⟨p, bb, rfl, h1, h2, h3, hB1⟩
  have HB1 := Lib.hid hB1
  rcases find_tells h1 h2 h3 with ⟨rfl, k0, A1, B1, e1, e2, e3, e4, e5⟩ | ⟨rfl, e1⟩
  · by_cases hneg : k < 0
    · obtain ⟨a1, a2⟩ := HR3.out
      rw [seek_neg e1 hneg] at a1 a2
      simp only at a1 a2
      have HT := Lib.hid (turn_below (b := b) (f := f) (D := D) (N := N) ⟨q, NA, nc, A, n, c, pl, H.out⟩ hB1)
      subst a1 a2
      clear h1 h2 h3 hB1 HF e1 e2 e3 e4 e5
      go_wp2_with fail
      go_ret
      exact ⟨rfl, HT.out⟩
    obtain ⟨m, rfl⟩ : ∃ m : Nat, k = (m : Int) := ⟨k.toNat, by omega⟩
    have hid := (head_some e1).1
    have hidn : ((id.toNat : Nat) : Int) = id := by omega
    have hxp : (hdsL s.t pl s.hs)[p]? = some (hdOf s.t pl (id.toNat, k0)) := hds_get (by rw [e2, ← e3, List.getElem?_append_right (Nat.le_refl _), Nat.sub_self]; rfl)
    obtain ⟨r, rfl, -, -, -, -, -, hpn⟩ := (H.out.below hB1).at_ hxp
    have HST := Lib.hid (startC g _ _ _ _ _ _ (pl 0) id w1 (H.out.below hB1).blk)
    have HE := Lib.hid (And.intro e1 (And.intro e2 (And.intro e3 e4)))
    have HXP := Lib.hid hxp
    have HID := Lib.hid hidn
    have hpb : p ≤ 100000 := by omega
    have HNEG := Lib.hid hneg
    clear h1 h2 h3 e1 e2 e3 e4 e5 hxp hB1 HF hid hidn
    go_wp2_with (go_at_call 37; refine HST.out.mono ?_; rintro e w2 ⟨rfl, hB2⟩)
    have HB2 := Lib.hid (HB1.out.trans (hB2.mono HB1.out.size))
    obtain ⟨T, hT⟩ : ∃ T, w2.alloc (.cells #[.int .i64 id, .int .i64 (pl 0 : Nat), .int .i64 0, .int .u64 0, .int .i64 0] 78) = T := ⟨_, rfl⟩
    have hBT : Below w.heap.size w T := by rw [← hT]; exact HB2.out.alloc HB2.out.size _
    have hbx : Blk T w2.heap.size (cellsHd (hdOf s.t pl (id.toNat, 0))) := by
      rw [← hT]
      refine Blk.new w2 _ _ _ ?_
      show _ = [Value.int .i64 ((id.toNat : Nat) : Int), .int .i64 ((pl 0 : Nat) : Int), .int .i64 0, .int .u64 0, .int .i64 0]
      rw [HID.out]
    obtain ⟨hh, hhh⟩ : ∃ hh, w2.heap.size = hh := ⟨_, rfl⟩
    have hhw : w.heap.size ≤ hh := by rw [← hhh]; exact HB2.out.size
    have HT0 := Lib.hid (show Blk T hh (cellsHd (hdOf s.t pl (id.toNat, 0))) by rw [← hhh]; exact hbx)
    have HL0 := Lib.hid (H.out.below hBT)
    have HLE0 := Lib.hid (show Left D w T from Left.of_below hBT)
    clear hbx hB2 HB2 HST hBT
    try rw [hT, hhh]
    clear hT hhh
    go_loopw [31] (fun v wr => ∃ j N' : Nat, v = .int .i64 (j : Nat) ∧ j ≤ m ∧ j ≤ s.t.events.length ∧ Blk wr hh (cellsHd (hdOf s.t pl (id.toNat, j))) ∧ LQ b f wr g D N' s q NA nc (some ⟨r, 0, none⟩) n c pl (hdsL s.t pl s.hs) (cellsP s.t s.hs) s.peak ∧ Left D w wr ∧ N' ≤ N + 78 * j) (fun v _ => m - (intOf v).toNat)
    case atStart => exact ⟨0, N, rfl, Nat.zero_le _, Nat.zero_le _, HT0.out, HL0.out, HLE0.out, by omega⟩
    case round =>
      obtain ⟨j, N', rfl, hjm, hje, hbx, hlq, hle, hN'⟩ := hrel
      have HBX := Lib.hid hbx
      have HLQ := Lib.hid hlq
      have HLE := Lib.hid hle
      have hfar := hlq.walk.far j hje
      have hple := hlq.walk.le j hje
      have hjb : j ≤ 10000000 := by have := hlq.ln.len; obtain ⟨sc, hs⟩ := hlq.ln.src; have := hs.le; omega
      obtain ⟨x, hx⟩ : ∃ x, hdOf s.t pl (id.toNat, j) = x := ⟨_, rfl⟩
      have hbx2 := hbx
      rw [hx] at hbx2
      have y0 := hbx2.cell 0 rfl
      have y1 := hbx2.cell 1 rfl
      have y2 := hbx2.cell 2 rfl
      have y3 := hbx2.cell 3 rfl
      have y4 := hbx2.cell 4 rfl
      clear hbx hlq hle hbx2 hfar hple
      by_cases hjk : j < m
      · obtain ⟨sc, hrd⟩ := HLQ.out.readC (by omega) id.toNat j hje
        have htell := read_tells HLQ.out.walk id.toNat hje
        rw [hx] at hrd htell
        have HRD := Lib.hid hrd
        have HTELL := Lib.hid htell
        have HX := Lib.hid hx
        have HJE := Lib.hid hje
        have HN1 := Lib.hid hN'
        clear hrd htell hx
        go_wp2_with fail
        refine HRD.out.mono ?_
        rintro e w2 ⟨N2, hs2, hN2, hg2, hres⟩
        have H2 := Lib.hid (HLQ.out.read hs2 hg2)
        have hhq : hh ≠ q := by have := H.out.ln.lt q H.out.ln.dq; omega
        have HX2 := Lib.hid (HBX.out.grown hg2 (fun e => hhq (by injection e)))
        have HG2 := Lib.hid hg2
        have HN2 := Lib.hid hN2
        have HL2 := Lib.hid (show Left D w w2 from HLE.out.trans (left_read hg2 H.out.ln.dq) (fun _ e => .inl e))
        have hsz2 := HL2.out.size
        have hat : x.at_ = ((pl j : Nat) : Int) := by rw [← HX.out]; rfl
        simp only [hat] at hres
        clear hat hs2 hg2 hN2 hN' hje
        rcases hres with ⟨hr1, rfl⟩ | ⟨hr1, K, ck, he, hev, hfar⟩
        · obtain ⟨hkn, hE, hne⟩ : ¬ j < s.t.events.length ∧ ReadE b f x (s.t.names.length : Nat) = s.er ∧ s.er ≠ 0 := by
            rcases HTELL.out with h | h
            · exact absurd h.2.1 hr1
            · exact h
          obtain ⟨a1, a2⟩ := HR3.out
          rw [seek_end (k := ((m : Nat) : Int)) HE.out.1 (by omega) (by have := HJE.out; omega)] at a1 a2
          simp only at a1 a2
          rw [hE]
          obtain ⟨se, hse⟩ : ∃ se, s.er = se := ⟨_, rfl⟩
          rw [hse] at a1 hne ⊢
          subst a1 a2
          have h0' : ((se : Int) == 0) = false := by simp; omega
          have HEND := Lib.hid (show ∀ W, Below w2.heap.size w2 W → TurnL LandL b f w W g D N s from fun W hb =>
            ⟨D, N2, ⟨q, NA, nc, some ⟨r, 0, none⟩, n, c, pl, H2.out.below hb⟩, fun _ e => .inl e, HL2.out.trans (Left.of_below (D := D) hb) (fun _ e => .inl e), by have := HN2.out; have := HN1.out; omega⟩)
          have HBW := Lib.hid (show Below w2.heap.size w2 ((w2.alloc (.cells #[.int .u64 0, .slice none 0 0] 38)).alloc (.cells #[.int .i64 0, .int .i64 0, .int .i64 0, .int .u64 0, .int .i64 0] 78)) from ((Below.refl _ w2).alloc (Nat.le_refl _) _).alloc (by simp) _)
          clear hE hkn hr1 y0 y1 y2 y3 y4 hse hne HTELL HRD
          go_wp2_with fail
          go_ret
          exact ⟨rfl, HEND.out _ HBW.out⟩
        · obtain ⟨hkn, -, hV, hNx⟩ : j < s.t.events.length ∧ ReadE b f x (s.t.names.length : Nat) = 0 ∧ scanV b f (pl j : Nat) (s.t.names.length : Nat) = s.t.events.getD j noEv ∧ scanN b f (pl j : Nat) (s.t.names.length : Nat) = pl (j + 1) := by
            rcases HTELL.out with h | h
            · exact h
            · exact absurd (h.2.1.symm.trans hr1) h.2.2
          obtain ⟨X, hX⟩ : ∃ X, s.t.events.getD j noEv = X := ⟨_, rfl⟩
          obtain ⟨x2, hx2⟩ : ∃ x, hdOf s.t pl (id.toNat, j + 1) = x := ⟨_, rfl⟩
          have i1 : x2.id = x.id := by rw [← hx2, ← HX.out]; rfl
          have i2 : x2.at_ = ((pl (j + 1) : Nat) : Int) := by rw [← hx2]; rfl
          have i3 : x2.ix = x.ix + 1 := by rw [← hx2, ← HX.out]; rfl
          have i4 : x2.tm = X.time := by rw [← hx2, ← hX]; rfl
          have i5 : x2.ids = ((X.ids.length : Nat) : Int) := by rw [← hx2, ← hX]; rfl
          rw [hV, hNx, hX, ← i1, ← i2, ← i3, ← i4, ← i5, i4] at he
          subst he
          have HI := Lib.hid (And.intro hx2 i4)
          have HKN := Lib.hid hkn
          clear hx2 i1 i2 i3 i4 i5 hev hfar hV hNx hX hkn hr1 y0 y1 y2 y3 y4 HTELL HRD
          go_upto_region 14 with fail
          obtain ⟨W3, hW3⟩ : ∃ W3, ((w2.alloc (.cells #[.int .u64 X.time, .slice K X.ids.length ck] 38)).alloc (.cells #[.int .i64 x2.id, .int .i64 x2.at_, .int .i64 x2.ix, .int .u64 X.time, .int .i64 x2.ids] 78)) = W3 := ⟨_, rfl⟩
          have hb3 : Below w2.heap.size w2 W3 := by rw [← hW3]; exact ((Below.refl _ w2).alloc (Nat.le_refl _) _).alloc (by simp) _
          have hn3 : Blk W3 (w2.heap.size + 1) [.int .i64 x2.id, .int .i64 x2.at_, .int .i64 x2.ix, .int .u64 X.time, .int .i64 x2.ids] := by
            rw [← hW3]
            have e : w2.heap.size + 1 = (w2.alloc (.cells #[.int .u64 X.time, .slice K X.ids.length ck] 38)).heap.size := by simp
            rw [e]
            exact Blk.new _ _ _ _ rfl
          rw [hW3]
          clear hW3
          have hx3 := HX2.out.later hb3
          have n0 := hn3.cell 0 rfl
          have n1 := hn3.cell 1 rfl
          have n2 := hn3.cell 2 rfl
          have n3 := hn3.cell 3 rfl
          have n4 := hn3.cell 4 rfl
          have t0 := hx3.cell 0 rfl
          have t1 := hx3.cell 1 rfl
          have t2 := hx3.cell 2 rfl
          have t3 := hx3.cell 3 rfl
          have t4 := hx3.cell 4 rfl
          have tf0 := hx3.fz 0 rfl
          have tf1 := hx3.fz 1 rfl
          have tf2 := hx3.fz 2 rfl
          have tf3 := hx3.fz 3 rfl
          have tf4 := hx3.fz 4 rfl
          have HX4 := Lib.hid (((((hx3.set 0 (.int .i64 x2.id) (by simp [cellsHd])).set 1 (.int .i64 x2.at_) (by simp [cellsHd])).set 2 (.int .i64 x2.ix) (by simp [cellsHd])).set 3 (.int .u64 X.time) (by simp [cellsHd])).set 4 (.int .i64 x2.ids) (by simp [cellsHd]))
          have HBW := Lib.hid (show Below w.heap.size w2 (((((W3.setCell ⟨hh, 0, none⟩ (.int .i64 x2.id)).setCell ⟨hh, 1, none⟩ (.int .i64 x2.at_)).setCell ⟨hh, 2, none⟩ (.int .i64 x2.ix)).setCell ⟨hh, 3, none⟩ (.int .u64 X.time)).setCell ⟨hh, 4, none⟩ (.int .i64 x2.ids)) from
            ((((((hb3.mono hsz2).setCell (p := ⟨hh, 0, none⟩) hhw _).setCell (p := ⟨hh, 1, none⟩) hhw _).setCell (p := ⟨hh, 2, none⟩) hhw _).setCell (p := ⟨hh, 3, none⟩) hhw _).setCell (p := ⟨hh, 4, none⟩) hhw _))
          clear hb3 hx3 hn3
          go_upto_region 15 with fail
          generalize ((((W3.setCell ⟨hh, 0, none⟩ (.int .i64 x2.id)).setCell ⟨hh, 1, none⟩ (.int .i64 x2.at_)).setCell ⟨hh, 2, none⟩ (.int .i64 x2.ix)).setCell ⟨hh, 3, none⟩ (.int .u64 X.time)).setCell ⟨hh, 4, none⟩ (.int .i64 x2.ids) = W4 at HX4 HBW ⊢
          clear n0 n1 n2 n3 n4 t0 t1 t2 t3 t4 tf0 tf1 tf2 tf3 tf4
          go_wp2_with fail
          go_roundw
          case rel => exact ⟨j + 1, N2, by simp, by omega, HKN.out, by
            have h4 := HX4.out
            rw [HI.out.1]
            unfold cellsHd
            rw [HI.out.2]
            exact h4, H2.out.keep (fun a ha => HBW.out.block a (H.out.ln.lt a ha)) HBW.out.size, left_over HL2.out HBW.out, by have := HN2.out; have := HN1.out; omega⟩
          case measure => (show m - (j + 1) < m - j; omega)
      · obtain rfl : j = m := by omega
        obtain ⟨a1, a2⟩ := HR3.out
        rw [seek_some (k := ((j : Nat) : Int)) HE.out.1 (by omega) (by omega)] at a1 a2
        simp only at a1 a2
        subst a1
        obtain ⟨y, hy⟩ : ∃ y, hdOf s.t pl (id.toNat, k0) = y := ⟨_, rfl⟩
        have hid2 := ids_le hok.ids j
        have hid1 := ids_le hok.ids k0
        have j2 : x.ids = ((idsAt s.t j : Nat) : Int) := by rw [← hx]; rfl
        have j1 : y.ids = ((idsAt s.t k0 : Nat) : Int) := by rw [← hy]; rfl
        have hset := cells_set (t := s.t) (head_some HE.out.1).2.2 (some j)
        have c1 : cellP s.t (some k0) = 3 + idsAt s.t k0 := rfl
        have c2 : cellP s.t (some j) = 3 + idsAt s.t j := rfl
        have hxp := HXP.out
        rw [hy] at hxp
        have HMV := Lib.hid (moveC g r n c p _ _ _ _ _ _ (hdsL s.t pl s.hs) x y wr HLQ.out.blk HLQ.out.row HLQ.out.len (by omega) HLQ.out.nc hxp (by omega) (by omega) (by omega))
        have HS' := Lib.hid a2
        have HX := Lib.hid hx
        have HY := Lib.hid hy
        have HN1 := Lib.hid hN'
        have HEND := Lib.hid (show ∀ w4, Blk w4 g [.pointer (some ⟨q, 0, none⟩), .slice NA s.t.names.length nc, .int .i64 (pl 0 : Nat), .int .i64 s.size, .slice (some ⟨r, 0, none⟩) n c, .int .i64 (((cellsP s.t s.hs : Nat) : Int) + (x.ids - y.ids)), .int .i64 (max (s.peak : Int) (((cellsP s.t s.hs : Nat) : Int) + (x.ids - y.ids)))] →
          w4.ownsRow (g + 1) 78 5 (.slice (some ⟨r, 0, none⟩) n c) n (rowHd ((hdsL s.t pl s.hs).set p x)) → Left (fun k => k = g ∨ k = r) wr w4 → TurnL LandL b f w w4 g D N s' from fun w4 q1 q2 q3 => by
          have hL : LandL b f w4 g D N' s' := by
            rw [← HS'.out]
            rw [← HX.out, ← HY.out] at q1
            rw [← HX.out] at q2
            have e : ((j : Nat) : Int).toNat = j := Int.toNat_natCast j
            rw [e]
            exact move_turn j HLQ.out (head_some HE.out.1).2.2 HE.out.2.1 HE.out.2.2.1 HE.out.2.2.2 q1 q2 q3
          have hD : ∀ j, (j = g ∨ j = r) → D j := fun j e => by
            rcases e with rfl | rfl
            · exact H.out.ln.dg
            · exact H.out.dv j rfl
          exact ⟨D, N', hL, fun _ e => .inl e, HLE.out.trans (left_more q3 hD) (fun _ e => .inl e), by have := HN1.out; omega⟩)
        clear hxp hset c1 c2 j1 j2 hid1 hid2 hx hy a2
        go_wp2_with (go_at_call 78; refine HMV.out.mono ?_; rintro e w4 ⟨rfl, hb4, hr4, hl4⟩)
        go_ret
        exact ⟨rfl, HEND.out _ hb4 hr4 hl4⟩
  · obtain ⟨a1, a2⟩ := HR3.out
    rw [seek_none e1] at a1 a2
    simp only at a1 a2
    have HT := Lib.hid (turn_below (b := b) (f := f) (D := D) (N := N) ⟨q, NA, nc, A, n, c, pl, H.out⟩ hB1)
    subst a1 a2
    clear h1 h2 h3 hB1 HF e1
    go_wp2_with fail
    go_ret
    exact ⟨rfl, HT.out⟩
end Go.Proofs.YtimbbfneaaglbaaGreat.Heads
