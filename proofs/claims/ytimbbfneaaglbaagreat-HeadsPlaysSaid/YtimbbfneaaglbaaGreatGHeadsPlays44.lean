/- Stage 13. By an AI agent. -/
import Derived.Test.YtimbbfneaaglbaaGreatGHeadsPlays43
import Derived.Test.YtimbbfneaaglbaaGreatGHeadsPlays34
import Derived.Test.YtimbbfneaaglbaaGreatGHeadsPlays12
import Derived.Test.YtimbbfneaaglbaaGreatGHeadsPlays24
namespace Go.Proofs.YtimbbfneaaglbaaGreat.Heads
open Go.RowKit Go.Proofs.YtimbbfneaaglbaaGreat.Ints Go.Proofs.YtimbbfneaaglbaaGreat.Mem Go.Proofs.YtimbbfneaaglbaaGreat.Trace Go.Proofs.YtimbbfneaaglbaaGreat.Record Go.Proofs.YtimbbfneaaglbaaGreat.Log Go.Proofs.YtimbbfneaaglbaaGreat.Src Go.Proofs.YtimbbfneaaglbaaGreat.Scan

theorem LQ.at_ {b : List Int} {f : Nat} {w : World} {g : Nat} {D : Nat → Prop} {N : Nat} {s : PS} {q : Nat} {NA : Option Addr} {nc : Nat} {A : Option Addr} {n c : Nat} {pl : Nat → Nat} {l : List Hd} {cl pk : Nat} (h : LQ b f w g D N s q NA nc A n c pl l cl pk) {p : Nat} {x : Hd} (hx : l[p]? = some x) :
    ∃ r, A = some ⟨r, 0, none⟩ ∧ w.cell? ⟨r, p * 5, none⟩ = some (.int .i64 x.id) ∧ w.cell? ⟨r, p * 5 + 1, none⟩ = some (.int .i64 x.at_) ∧ w.cell? ⟨r, p * 5 + 2, none⟩ = some (.int .i64 x.ix) ∧ w.cell? ⟨r, p * 5 + 3, none⟩ = some (.int .u64 x.tm) ∧ w.cell? ⟨r, p * 5 + 4, none⟩ = some (.int .i64 x.ids) ∧ p < n := by
  have hp := (List.getElem?_eq_some_iff.1 hx).1
  obtain ⟨r, e, -, hc⟩ := (RdH.own h.row h.len) (by omega)
  obtain ⟨h0, h1, h2, h3, h4⟩ := hc p x hx
  exact ⟨r, e, h0, h1, h2, h3, h4, by rw [← h.len]; exact hp⟩
theorem clone_some {s : PS} {id : Int} {k : Nat} (h : headP s.hs id = some k) : cloneP s id = addP s k := by unfold cloneP; rw [h]
theorem clone_none {s : PS} {id : Int} (h : headP s.hs id = none) : cloneP s id = (0, 11, s) := by unfold cloneP; rw [h]
set_option maxHeartbeats 8000000 in
set_option maxRecDepth 100000 in
theorem land_clone (b : List Int) (f : Nat) (w : World) (g : Nat) (D : Nat → Prop) (N : Nat) (s : PS) (id : Int) (h : LandL b f w g D N s) (hok : OkP s) (hl : s.hs.length ≤ 100000) :
    Calls Tryz.prog 46 #[.pointer (some ⟨g, 0, none⟩), .int .i64 id] w fun e w' => e = .returned (.tuple #[.int .i64 ((cloneP s id).1 : Nat), .int .i64 ((cloneP s id).2.1 : Nat)]) ∧ TurnL LandL b f w w' g D N (cloneP s id).2.2 := by
  obtain ⟨q, NA, nc, A, n, c, pl, h⟩ := h
  have hn : n = countP s.hs := by rw [← h.len, hds_len]
  have hnl := count_le s.hs
  have hcl := cells_bd hok hl
  have HF := Lib.hid (find_land g A n c (hdsL s.t pl s.hs) id _ _ _ _ _ _ w h.blk h.len (by omega) h.nc (RdH.own h.row h.len) (hds_sorted s.t pl s.hs))
  have H := Lib.hid h
  obtain ⟨r1, hr1⟩ : ∃ r, (cloneP s id).1 = r := ⟨_, rfl⟩
  obtain ⟨r2, hr2⟩ : ∃ r, (cloneP s id).2.1 = r := ⟨_, rfl⟩
  obtain ⟨s', hs'⟩ : ∃ r, (cloneP s id).2.2 = r := ⟨_, rfl⟩
  rw [hr1, hr2, hs']
  have HR3 := Lib.hid (And.intro hr1 (And.intro hr2 hs'))
  clear h hr1 hr2 hs'
  go_enter Tryz.func46, Tryz.ntmps46
  go_wp2_with fail
  refine HF.out.mono ?_
  rintro e w1 ⟨p, bb, rfl, h1, h2, h3, hB1⟩
  rcases find_tells h1 h2 h3 with ⟨rfl, k, A1, B1, e1, e2, e3, e4, e5⟩ | ⟨rfl, e1⟩
  · obtain ⟨x, hx⟩ : ∃ x, hdOf s.t pl (id.toNat, k) = x := ⟨_, rfl⟩
    have hxp : (hdsL s.t pl s.hs)[p]? = some x := by rw [← hx]; exact hds_get (by rw [e2, ← e3, List.getElem?_append_right (Nat.le_refl _), Nat.sub_self]; rfl)
    obtain ⟨r, rfl, y0, y1, y2, y3, y4, hpn⟩ := (H.out.below hB1).at_ hxp
    have b4 := (H.out.below hB1).blk.cell 4 rfl
    have hxi : 0 ≤ x.ids ∧ x.ids ≤ 64 := by rw [← hx]; show 0 ≤ ((idsAt s.t k : Nat) : Int) ∧ ((idsAt s.t k : Nat) : Int) ≤ 64; have := ids_le hok.ids k; omega
    have HADD := Lib.hid (addC g n c _ _ _ s.size _ _ _ (hdsL s.t pl s.hs) x w1 (H.out.below hB1).blk (H.out.below hB1).row H.out.len (by omega) H.out.nc (fun m j x y => free_mono m j x y) (by omega) (by omega))
    have HEND := Lib.hid (show ∀ e w', GotAdd g n c (cellsP s.t s.hs) s.peak (some ⟨r, 0, none⟩) s.size (.pointer (some ⟨q, 0, none⟩)) (.slice NA s.t.names.length nc) (.int .i64 (pl 0 : Nat)) (hdsL s.t pl s.hs) x w1 e w' →
        e = .returned (.tuple #[.int .i64 (r1 : Nat), .int .i64 (r2 : Nat)]) ∧ TurnL LandL b f w w' g D N s' from fun e w' hg => by
      rw [← hx] at hg
      obtain ⟨h1, h2⟩ := add_turn id.toNat k hok (H.out.below hB1) hg
      have hc := clone_some e1
      obtain ⟨a1, a2, a3⟩ := HR3.out
      rw [hc] at a1 a2 a3
      rw [a1, a2] at h1
      rw [a3] at h2
      exact ⟨h1, turn_ahead hB1 h2⟩)
    clear h1 h2 h3 e1 e2 e3 e4 e5 hx hxp hxi HF HR3
    go_wp2_with (go_at_call 36; refine HADD.out.mono ?_; intro e w2 hG; obtain ⟨rfl, hT⟩ := HEND.out e w2 hG)
    refine bodyPost_ret (v := .tuple #[.int .i64 (r1 : Nat), .int .i64 (r2 : Nat)]) (by simp [results, Tryz.results46, go_sem]) rfl ?_
    exact ⟨rfl, hT⟩
  · have hc := clone_none e1
    obtain ⟨a1, a2, a3⟩ := HR3.out
    rw [hc] at a1 a2 a3
    have HT := Lib.hid (turn_below (b := b) (f := f) (D := D) (N := N) ⟨q, NA, nc, A, n, c, pl, H.out⟩ hB1)
    simp only at a1 a2 a3
    subst a1 a2 a3
    clear h1 h2 h3 hB1 HF
    go_wp2_with fail
    refine bodyPost_ret (v := .tuple #[.int .i64 0, .int .i64 11]) (by simp [results, Tryz.results46, go_sem]) rfl ?_
    exact ⟨rfl, HT.out⟩
set_option maxHeartbeats 4000000 in
theorem land_count (b : List Int) (f : Nat) (w : World) (g : Nat) (D : Nat → Prop) (N : Nat) (s : PS) (h : LandL b f w g D N s) :
    Calls Tryz.prog 14 #[.pointer (some ⟨g, 0, none⟩)] w fun e w' => e = .returned (.int .i64 (countP s.hs : Nat)) ∧ TurnL LandL b f w w' g D N s := by
  have HT := Lib.hid (turn_below h (Below.refl _ _))
  obtain ⟨q, NA, nc, A, n, c, pl, h⟩ := h
  have hn : n = countP s.hs := by rw [← h.len, hds_len]
  have b4 := h.blk.cell 4 rfl
  rw [← hn]
  clear h hn
  go_enter Tryz.func14, Tryz.ntmps14
  go_wp2
  go_ret
  exact ⟨rfl, HT.out⟩
set_option maxHeartbeats 4000000 in
theorem land_cells (b : List Int) (f : Nat) (w : World) (g : Nat) (D : Nat → Prop) (N : Nat) (s : PS) (h : LandL b f w g D N s) :
    Calls Tryz.prog 15 #[.pointer (some ⟨g, 0, none⟩)] w fun e w' => e = .returned (.int .i64 (cellsP s.t s.hs : Nat)) ∧ TurnL LandL b f w w' g D N s := by
  have HT := Lib.hid (turn_below h (Below.refl _ _))
  obtain ⟨q, NA, nc, A, n, c, pl, h⟩ := h
  have b5 := h.blk.cell 5 rfl
  clear h
  go_enter Tryz.func15, Tryz.ntmps15
  go_wp2
  go_ret
  exact ⟨rfl, HT.out⟩
set_option maxHeartbeats 4000000 in
theorem land_peak (b : List Int) (f : Nat) (w : World) (g : Nat) (D : Nat → Prop) (N : Nat) (s : PS) (h : LandL b f w g D N s) :
    Calls Tryz.prog 17 #[.pointer (some ⟨g, 0, none⟩)] w fun e w' => e = .returned (.int .i64 (s.peak : Nat)) ∧ TurnL LandL b f w w' g D N s := by
  have HT := Lib.hid (turn_below h (Below.refl _ _))
  obtain ⟨q, NA, nc, A, n, c, pl, h⟩ := h
  have b6 := h.blk.cell 6 rfl
  clear h
  go_enter Tryz.func17, Tryz.ntmps17
  go_wp2
  go_ret
  exact ⟨rfl, HT.out⟩
set_option maxHeartbeats 8000000 in
set_option maxRecDepth 100000 in
theorem land_index (b : List Int) (f : Nat) (w : World) (g : Nat) (D : Nat → Prop) (N : Nat) (s : PS) (id : Int) (h : LandL b f w g D N s) (hl : s.hs.length ≤ 100000) :
    Calls Tryz.prog 24 #[.pointer (some ⟨g, 0, none⟩), .int .i64 id] w fun e w' => e = .returned (.tuple #[.int .i64 (((headP s.hs id).getD 0 : Nat) : Int), .bool (headP s.hs id).isSome]) ∧ TurnL LandL b f w w' g D N s := by
  have HT := Lib.hid (fun w' (hb : Below w.heap.size w w') => turn_below h hb)
  obtain ⟨q, NA, nc, A, n, c, pl, h⟩ := h
  have hn : n = countP s.hs := by rw [← h.len, hds_len]
  have hnl := count_le s.hs
  have HF := Lib.hid (find_land g A n c (hdsL s.t pl s.hs) id _ _ _ _ _ _ w h.blk h.len (by omega) h.nc (RdH.own h.row h.len) (hds_sorted s.t pl s.hs))
  have H := Lib.hid h
  clear h
  obtain ⟨o, ho⟩ : ∃ o, headP s.hs id = o := ⟨_, rfl⟩
  rw [ho]
  have HO := Lib.hid ho
  clear ho
  go_enter Tryz.func24, Tryz.ntmps24
  go_wp2_with fail
  refine HF.out.mono ?_
  rintro e w1 ⟨p, bb, rfl, h1, h2, h3, hB1⟩
  rcases find_tells h1 h2 h3 with ⟨rfl, k, A1, B1, e1, e2, e3, e4, e5⟩ | ⟨rfl, e1⟩
  · have ho := HO.out
    rw [e1] at ho
    subst ho
    obtain ⟨r, rfl, -, -, y2, -, -, hpn⟩ := (H.out.below hB1).at_ (hds_get (t := s.t) (pl := pl) (j := p) (u := (id.toNat, k)) (by rw [e2, ← e3, List.getElem?_append_right (Nat.le_refl _), Nat.sub_self]; rfl))
    have y2' : w1.cell? ⟨r, p * 5 + 2, none⟩ = some (.int .i64 (k : Nat)) := y2
    have b4 := (H.out.below hB1).blk.cell 4 rfl
    have HT2 := Lib.hid (HT.out w1 hB1)
    clear h1 h2 h3 e1 e2 e3 e4 e5 HF HT hB1 H y2
    go_wp2_with fail
    refine bodyPost_ret (v := .tuple #[.int .i64 (k : Nat), .bool true]) (by simp [results, Tryz.results24, go_sem]) rfl ?_
    exact ⟨rfl, HT2.out⟩
  · have ho := HO.out
    rw [e1] at ho
    subst ho
    have HT2 := Lib.hid (HT.out w1 hB1)
    clear h1 h2 h3 e1 HF HT hB1 H
    go_wp2_with fail
    refine bodyPost_ret (v := .tuple #[.int .i64 0, .bool false]) (by simp [results, Tryz.results24, go_sem]) rfl ?_
    exact ⟨rfl, HT2.out⟩
end Go.Proofs.YtimbbfneaaglbaaGreat.Heads

namespace Go.Proofs.YtimbbfneaaglbaaGreat.Heads
open Go.RowKit Go.Proofs.YtimbbfneaaglbaaGreat.Ints Go.Proofs.YtimbbfneaaglbaaGreat.Mem Go.Proofs.YtimbbfneaaglbaaGreat.Trace Go.Proofs.YtimbbfneaaglbaaGreat.Record Go.Proofs.YtimbbfneaaglbaaGreat.Log Go.Proofs.YtimbbfneaaglbaaGreat.Src Go.Proofs.YtimbbfneaaglbaaGreat.Scan

theorem rowHd_del (l : List Hd) (i : Nat) (hi : i < l.length) : (rowHd l).take (i * 5) ++ (rowHd l).drop ((i + 1) * 5) = rowHd (l.take i ++ l.drop (i + 1)) := by
  have e1 : rowHd l = rowHd (l.take i) ++ rowHd (l.drop i) := by rw [← rowHd_append, List.take_append_drop]
  have e2 : rowHd l = rowHd (l.take (i + 1)) ++ rowHd (l.drop (i + 1)) := by rw [← rowHd_append, List.take_append_drop]
  have l1 : (rowHd (l.take i)).length = i * 5 := by rw [rowHd_len, List.length_take, Nat.min_eq_left (by omega)]
  have l2 : (rowHd (l.take (i + 1))).length = (i + 1) * 5 := by rw [rowHd_len, List.length_take, Nat.min_eq_left (by omega)]
  rw [rowHd_append]
  congr 1
  · rw [e1, List.take_left' l1]
  · rw [e2, List.drop_left' l2]
theorem delH (B r n c i : Nat) (l : List Hd) (w : World) (hrow : w.ownsRow B 78 5 (.slice (some ⟨r, 0, none⟩) n c) n (rowHd l)) (hl : l.length = n) (hi : i < n) :
    Calls Tryz.prog 41 #[.slice (some ⟨r, 0, none⟩) n c, .int .i64 (i : Nat), .int .i64 ((i : Int) + 1)] w fun e w' => e = .returned (.slice (some ⟨r, 0, none⟩) (n - 1) c) ∧
      w'.ownsRow B 78 5 (.slice (some ⟨r, 0, none⟩) (n - 1) c) (n - 1) (rowHd (l.take i ++ l.drop (i + 1))) ∧ w.grownBy w' (some r) := by
  have hxl := hrow.1
  rcases hrow.2 with ⟨e1, -⟩ | ⟨g, c', cur, e1, hB, hg, hnc, hcm, hcs, htk⟩
  · cases e1
  injection e1 with e1 e2 e3
  injection e1 with e1
  injection e1 with e1 _ _
  subst e1
  subst e3
  have q63 : maxLen = 9223372036854775807 := rfl
  have h := del_row r n c i (i + 1) cur (rowHd l) w hg hcs hnc htk hxl (by omega) (by omega) (rowHd_one l)
  rw [show ((i + 1 : Nat) : Int) = (i : Int) + 1 by omega, show i + (n - (i + 1)) = n - 1 by omega] at h
  refine h.mono ?_
  rintro e w' ⟨rfl, cur', g1, g2, g3, g4⟩
  rw [rowHd_del l i (by omega)] at g3
  refine ⟨rfl, ⟨?_, .inr ⟨r, c, cur', rfl, hB, g1, by omega, hcm, g2, g3⟩⟩, g4⟩
  rw [rowHd_len, List.length_append, List.length_take, List.length_drop, Nat.min_eq_left (by omega)]
  omega
theorem close_some {s : PS} {id : Int} {k : Nat} (h : headP s.hs id = some k) : closeP s id = (true, { s with hs := s.hs.set id.toNat none }) := by unfold closeP; rw [h]
theorem close_none {s : PS} {id : Int} (h : headP s.hs id = none) : closeP s id = (false, s) := by unfold closeP; rw [h]
set_option maxHeartbeats 8000000 in
set_option maxRecDepth 100000 in
theorem land_close (b : List Int) (f : Nat) (w : World) (g : Nat) (D : Nat → Prop) (N : Nat) (s : PS) (id : Int) (h : LandL b f w g D N s) (hok : OkP s) (hl : s.hs.length ≤ 100000) :
    Calls Tryz.prog 16 #[.pointer (some ⟨g, 0, none⟩), .int .i64 id] w fun e w' => e = .returned (.bool (closeP s id).1) ∧ TurnL LandL b f w w' g D N (closeP s id).2 := by
  obtain ⟨q, NA, nc, A, n, c, pl, h⟩ := h
  have hn : n = countP s.hs := by rw [← h.len, hds_len]
  have hnl := count_le s.hs
  have hcl := cells_bd hok hl
  have HF := Lib.hid (find_land g A n c (hdsL s.t pl s.hs) id _ _ _ _ _ _ w h.blk h.len (by omega) h.nc (RdH.own h.row h.len) (hds_sorted s.t pl s.hs))
  have H := Lib.hid h
  obtain ⟨r1, hr1⟩ : ∃ r, (closeP s id).1 = r := ⟨_, rfl⟩
  obtain ⟨s', hs'⟩ : ∃ r, (closeP s id).2 = r := ⟨_, rfl⟩
  rw [hr1, hs']
  have HR3 := Lib.hid (And.intro hr1 hs')
  clear h hr1 hs'
  go_enter Tryz.func16, Tryz.ntmps16
  go_wp2_with fail
  refine HF.out.mono ?_
  rintro e w1 ⟨p, bb, rfl, h1, h2, h3, hB1⟩
  rcases find_tells h1 h2 h3 with ⟨rfl, k, A1, B1, e1, e2, e3, e4, e5⟩ | ⟨rfl, e1⟩
  · obtain ⟨x, hx⟩ : ∃ x, hdOf s.t pl (id.toNat, k) = x := ⟨_, rfl⟩
    have hxp : (hdsL s.t pl s.hs)[p]? = some x := by rw [← hx]; exact hds_get (by rw [e2, ← e3, List.getElem?_append_right (Nat.le_refl _), Nat.sub_self]; rfl)
    have H1 := Lib.hid (H.out.below hB1)
    obtain ⟨r, rfl, y0, y1, y2, y3, y4, hpn⟩ := H1.out.at_ hxp
    have b4 := H1.out.blk.cell 4 rfl
    have hxi : x.ids = ((idsAt s.t k : Nat) : Int) := by rw [← hx]; rfl
    have hi64 := ids_le hok.ids k
    have hset := cells_set (t := s.t) (head_some e1).2.2 none
    have hcp : cellP s.t (some k) = 3 + idsAt s.t k := rfl
    have hcn : cellP s.t none = 0 := rfl
    have hpk := hok.peak
    have HCE := Lib.hid (fun W => cellsC x W (by omega))
    have hneg : IntKind.i64.wrap (-(3 + x.ids)) = -(3 + x.ids) := by rw [IntKind.wrap_i64]; omega
    have hcl2 : ((cellsP s.t s.hs : Nat) : Int) + -(3 + x.ids) = ((cellsP s.t (s.hs.set id.toNat none) : Nat) : Int) := by omega
    have hpk2 : max (s.peak : Int) ((cellsP s.t (s.hs.set id.toNat none) : Nat) : Int) = ((s.peak : Nat) : Int) := by omega
    have HCO := Lib.hid (fun W (hb : Below w1.heap.size w1 W) => countC g _ _ (-(3 + x.ids)) _ _ _ _ _ W (H1.out.below hb).blk (by omega))
    rw [hcl2, hpk2] at HCO
    have HP := Lib.hid (And.intro hpn (And.intro e2 (And.intro e3 (And.intro e5 e1))))
    have hgr : g < r := by have := (H1.out.row.lt r rfl).1; omega
    have hpb : p ≤ 100000 := by omega
    clear h1 h2 h3 e1 e2 e3 e4 e5 hx hxp hset hcl2 hpk2 hcp hcn hpk HF hxi hi64 hn hnl
    go_wp2_with (first
      | (go_at_call 40; refine (HCE.out _).mono ?_; rintro e w2 ⟨rfl, hB2⟩)
      | (go_at_call 39; refine (HCO.out w2 hB2).mono ?_; rintro e w3 ⟨rfl, hb3, hg3⟩; have b43 := hb3.cell 4 rfl)
      | (go_at_call 41; refine (delH (g + 1) r n c p (hdsL s.t pl s.hs) w3 (row_apart (H1.out.below hB2).row hg3 (Nat.lt_succ_self g)) H.out.len hpn).mono ?_; rintro e w4 ⟨rfl, hrow4, hg4⟩; have b44 := (hb3.grown hg4 (fun e => by injection e with e; omega)).cell 4 rfl; have f44 := (hb3.grown hg4 (fun e => by injection e with e; omega)).fz 4 rfl))
    have hb4 := hb3.grown hg4 (fun e => by injection e with e; omega)
    have hb5 := hb4.set 4 (.slice (some ⟨r, 0, none⟩) (n - 1) c) (by simp)
    have HL : Left (fun k => k = g ∨ k = r) w (w4.setCell ⟨g, 4, none⟩ (.slice (some ⟨r, 0, none⟩) (n - 1) c)) :=
      left_set ((((Left.of_below hB1).trans (Left.of_below (D := fun k => k = g ∨ k = r) hB2) (fun _ e => .inl e)).trans (Left.of_grown (D := fun k => k = g ∨ k = r) hg3 (fun q e => by injection e with e; exact .inl e.symm)) (fun _ e => .inl e)).trans (Left.of_grown (D := fun k => k = g ∨ k = r) hg4 (fun q e => by injection e with e; exact .inr e.symm)) (fun _ e => .inl e)) ⟨g, 4, none⟩ _ (.inl (.inl rfl))
    have HEND := Lib.hid (show r1 = true ∧ TurnL LandL b f w (w4.setCell ⟨g, 4, none⟩ (.slice (some ⟨r, 0, none⟩) (n - 1) c)) g D N s' from by
      obtain ⟨-, e2, e3, e5, e1⟩ := HP.out
      have hc := close_some e1
      obtain ⟨a1, a2⟩ := HR3.out
      rw [hc] at a1 a2
      refine ⟨a1.symm, ?_⟩
      rw [← a2]
      have e6 : (hdsL s.t pl s.hs).take p ++ (hdsL s.t pl s.hs).drop (p + 1) = hdsL s.t pl (s.hs.set id.toNat none) := by
        unfold hdsL
        rw [e2, e5, List.map_append, List.map_append, List.map_cons, List.take_left' (by rw [List.length_map, e3])]
        congr 1
        rw [← List.singleton_append, ← List.append_assoc, List.drop_left' (by simp [e3])]
      rw [e6] at hrow4
      refine ⟨D, N, ⟨q, NA, nc, some ⟨r, 0, none⟩, n - 1, c, pl, ⟨hb5, ?_, row_apart hrow4 (grown_cell w4 ⟨g, 4, none⟩ _) (Nat.lt_succ_self g), ?_, fun j hj => H.out.dv j hj, H.out.walk⟩⟩, fun _ e => .inl e, left_more HL (fun j hj => ?_), Nat.le_add_right _ _⟩
      · exact H.out.ln.keep HL.size (fun j hj hjg => HL.block j (H.out.ln.lt j hj) (by rintro (e | e) <;> omega))
      · show (hdsL s.t pl (s.hs.set id.toNat none)).length = n - 1
        have := hrow4.1
        rw [rowHd_len] at this
        omega
      · rcases hj with rfl | rfl
        · exact H.out.ln.dg
        · exact H.out.dv j rfl)
    go_ret
    obtain ⟨h1, h2⟩ := HEND.out
    exact ⟨by first | exact h1 | exact h1.symm | (rw [h1]; rfl), h2⟩
  · have hc := close_none e1
    obtain ⟨a1, a2⟩ := HR3.out
    rw [hc] at a1 a2
    have HT := Lib.hid (turn_below (b := b) (f := f) (D := D) (N := N) ⟨q, NA, nc, A, n, c, pl, H.out⟩ hB1)
    simp only at a1 a2
    subst a1 a2
    clear h1 h2 h3 hB1 HF
    go_wp2_with fail
    go_ret
    exact ⟨rfl, HT.out⟩
end Go.Proofs.YtimbbfneaaglbaaGreat.Heads

namespace Go.Proofs.YtimbbfneaaglbaaGreat.Heads
open Go.RowKit Go.Proofs.YtimbbfneaaglbaaGreat.Ints Go.Proofs.YtimbbfneaaglbaaGreat.Mem Go.Proofs.YtimbbfneaaglbaaGreat.Trace Go.Proofs.YtimbbfneaaglbaaGreat.Record Go.Proofs.YtimbbfneaaglbaaGreat.Log Go.Proofs.YtimbbfneaaglbaaGreat.Src

structure PoolNil : Prop where
  open_ : ∀ (w : World), Calls Tryz.prog 13 #[.pointer none] w fun e w' => e = .returned (.tuple #[.int .i64 0, .int .i64 1]) ∧ Below w.heap.size w w'
  clone_ : ∀ (id : Int) (w : World), small64 id → Calls Tryz.prog 46 #[.pointer none, .int .i64 id] w fun e w' => e = .returned (.tuple #[.int .i64 0, .int .i64 1]) ∧ Below w.heap.size w w'
  next_ : ∀ (id : Int) (w : World), small64 id → Calls Tryz.prog 48 #[.pointer none, .int .i64 id] w fun e w' => e = .returned (.tuple #[.agg #[.int .u64 0, .slice none 0 0], .int .i64 1]) ∧ Below w.heap.size w w'
  index_ : ∀ (id : Int) (w : World), small64 id → Calls Tryz.prog 24 #[.pointer none, .int .i64 id] w fun e w' => e = .returned (.tuple #[.int .i64 0, .bool false]) ∧ Below w.heap.size w w'
  seek_ : ∀ (id k : Int) (w : World), small64 id → small64 k → Calls Tryz.prog 51 #[.pointer none, .int .i64 id, .int .i64 k] w fun e w' => e = .returned (.int .i64 1) ∧ Below w.heap.size w w'
  close_ : ∀ (id : Int) (w : World), small64 id → Calls Tryz.prog 16 #[.pointer none, .int .i64 id] w fun e w' => e = .returned (.bool false) ∧ Below w.heap.size w w'
  count_ : ∀ (w : World), Calls Tryz.prog 14 #[.pointer none] w fun e w' => e = .returned (.int .i64 0) ∧ Below w.heap.size w w'
  cells_ : ∀ (w : World), Calls Tryz.prog 15 #[.pointer none] w fun e w' => e = .returned (.int .i64 0) ∧ Below w.heap.size w w'
  peak_ : ∀ (w : World), Calls Tryz.prog 17 #[.pointer none] w fun e w' => e = .returned (.int .i64 0) ∧ Below w.heap.size w w'
  names_ : ∀ (w : World), Calls Tryz.prog 20 #[.pointer none] w fun e w' => ∃ A c, e = .returned (.slice A 0 c) ∧ Below w.heap.size w w'

end Go.Proofs.YtimbbfneaaglbaaGreat.Heads

namespace Go.Proofs.YtimbbfneaaglbaaGreat.Heads
open Go.RowKit Go.Proofs.YtimbbfneaaglbaaGreat.Ints Go.Proofs.YtimbbfneaaglbaaGreat.Mem Go.Proofs.YtimbbfneaaglbaaGreat.Trace Go.Proofs.YtimbbfneaaglbaaGreat.Record Go.Proofs.YtimbbfneaaglbaaGreat.Log Go.Proofs.YtimbbfneaaglbaaGreat.Src Go.Proofs.YtimbbfneaaglbaaGreat.Scan

theorem cloneStrs (A : Option Addr) (l : List (List UInt8)) (c : Nat) (w : World) (h : Strs w A l) (hl : l.length ≤ 64) (_hc : l.length ≤ c) :
    Calls Tryz.prog 44 #[.slice A l.length c] w fun e w' => ∃ A2 c2, e = .returned (.slice A2 l.length c2) ∧ w'.ownsRow w.heap.size 9 1 (.slice A2 l.length c2) l.length (l.map strS) ∧ Below w.heap.size w w' := by
  rcases Nat.eq_zero_or_pos l.length with h0 | h0
  · have hl0 : l = [] := List.eq_nil_of_length_eq_zero h0
    subst hl0
    cases A with
    | none =>
      refine (Tryz.slices_Clone_string_nil 0 c w).mono ?_
      rintro e w' ⟨rfl, rfl⟩
      exact ⟨none, 0, rfl, World.ownsRow_nil _ _ _ _, Below.refl _ _⟩
    | some a =>
      refine (Tryz.slices_Clone_string_zero a c w).mono ?_
      rintro e w' ⟨v', rfl, h1, -, h2⟩
      obtain ⟨A2, c2, rfl, -⟩ := own_sliceN h1
      exact ⟨A2, c2, rfl, h1, h2⟩
  · obtain ⟨b, off, rfl, hc⟩ := h h0
    have hm : (l.map (fun s => (⟨s.toArray⟩ : ByteArray))).length = l.length := List.length_map _
    refine (Tryz.slices_Clone_string b off l.length c (l.map (fun s => (⟨s.toArray⟩ : ByteArray))) w (by rw [hm]; exact Nat.le_refl _) (by omega) (fun j hj => ?_)).mono ?_
    · rw [hm] at hj
      rw [hc j l[j] (List.getElem?_eq_getElem hj), List.getD_eq_getElem?_getD, List.getElem?_map, List.getElem?_eq_getElem hj]
      rfl
    · rintro e w' ⟨v', rfl, h1, -, h2⟩
      obtain ⟨A2, c2, rfl, -⟩ := own_sliceN h1
      refine ⟨A2, c2, rfl, ?_, h2⟩
      rw [List.take_of_length_le (by rw [hm]; exact Nat.le_refl _), List.map_map] at h1
      exact h1
set_option maxHeartbeats 8000000 in
set_option maxRecDepth 100000 in
theorem land_names (b : List Int) (f : Nat) (w : World) (g : Nat) (D : Nat → Prop) (N : Nat) (s : PS) (h : LandL b f w g D N s) :
    Calls Tryz.prog 20 #[.pointer (some ⟨g, 0, none⟩)] w fun e w' => ∃ A c D' N', e = .returned (.slice A s.t.names.length c) ∧ Strs w' A s.t.names ∧ (∀ a, A = some a → w.heap.size ≤ a.block ∧ ¬ D' a.block) ∧ s.t.names.length ≤ c ∧ c ≤ maxLen ∧
      LandL b f w' g D' N' s ∧ (∀ q, D' q → D q ∨ w.heap.size ≤ q) ∧ Left D w w' ∧ N' ≤ N + 1099511627776 := by
  obtain ⟨q, NA, nc, A, n, c, pl, h⟩ := h
  have b1 := h.blk.cell 1 rfl
  have HC := Lib.hid (cloneStrs NA s.t.names nc w h.ln.strs h.ln.n64 h.ln.nn.1)
  have HEND := Lib.hid (show ∀ A2 c2 w', w'.ownsRow w.heap.size 9 1 (.slice A2 s.t.names.length c2) s.t.names.length (s.t.names.map strS) → Below w.heap.size w w' → ∃ A c D' N', Ending.returned (.slice A2 s.t.names.length c2) = .returned (.slice A s.t.names.length c) ∧ Strs w' A s.t.names ∧ (∀ a, A = some a → w.heap.size ≤ a.block ∧ ¬ D' a.block) ∧ s.t.names.length ≤ c ∧ c ≤ maxLen ∧
      LandL b f w' g D' N' s ∧ (∀ q, D' q → D q ∨ w.heap.size ≤ q) ∧ Left D w w' ∧ N' ≤ N + 1099511627776 from fun A2 c2 w' hown hb => by
    obtain ⟨-, h1, h2, h3⟩ := strs_own hown
    refine ⟨A2, c2, D, N, rfl, h1, fun a e => ?_, h2, h3, ⟨q, NA, nc, A, n, c, pl, h.below hb⟩, fun _ e => .inl e, Left.of_below hb, Nat.le_add_right _ _⟩
    subst e
    have := (hown.lt a.block rfl).1
    exact ⟨this, fun e => by have := h.ln.lt _ e; omega⟩)
  clear h
  obtain ⟨nn, hnn⟩ : ∃ nn, s.t.names.length = nn := ⟨_, rfl⟩
  rw [hnn] at b1 HC HEND ⊢
  go_enter Tryz.func20, Tryz.ntmps20
  go_wp2_with (go_at_call 44; refine HC.out.mono ?_; rintro e w1 ⟨A2, c2, rfl, h1, h2⟩)
  go_ret
  exact HEND.out A2 c2 _ h1 h2
end Go.Proofs.YtimbbfneaaglbaaGreat.Heads

namespace Go.Proofs.YtimbbfneaaglbaaGreat.Heads
open Go.RowKit Go.Proofs.YtimbbfneaaglbaaGreat.Ints Go.Proofs.YtimbbfneaaglbaaGreat.Mem Go.Proofs.YtimbbfneaaglbaaGreat.Trace Go.Proofs.YtimbbfneaaglbaaGreat.Record Go.Proofs.YtimbbfneaaglbaaGreat.Log Go.Proofs.YtimbbfneaaglbaaGreat.Src Go.Proofs.YtimbbfneaaglbaaGreat.Scan

theorem evok_at {w w' : World} {e : Ev} {K : Option Addr} {c : Nat} (h : EvOk w e K c) (hk : ∀ a, K = some a → 0 < e.ids.length → w'.heap[a.block]? = w.heap[a.block]?) : EvOk w' e K c := ⟨h.1, rd_at h.2.1 hk, h.2.2⟩
theorem read_tells {b : List Int} {f : Nat} {t : Tr} {er : Nat} {pl : Nat → Nat} (h : Walk b f t er pl) (i : Nat) {k : Nat} (hk : k ≤ t.events.length) :
    (k < t.events.length ∧ ReadE b f (hdOf t pl (i, k)) (t.names.length : Nat) = 0 ∧ scanV b f (pl k : Nat) (t.names.length : Nat) = t.events.getD k noEv ∧ scanN b f (pl k : Nat) (t.names.length : Nat) = pl (k + 1)) ∨
      (¬ k < t.events.length ∧ ReadE b f (hdOf t pl (i, k)) (t.names.length : Nat) = er ∧ er ≠ 0) := by
  by_cases hlt : k < t.events.length
  · obtain ⟨h1, h2, h3, h4⟩ := h.rec_ k hlt
    refine .inl ⟨hlt, ?_, h2, h3⟩
    unfold ReadE
    show (if scanE b f (pl k : Nat) (t.names.length : Nat) ≠ 0 then _ else if (scanV b f (pl k : Nat) (t.names.length : Nat)).time < timeD 0 t.events k then _ else _) = _
    rw [h1, h2, if_neg (fun e => e rfl), if_neg (by omega)]
  · obtain rfl : k = t.events.length := by omega
    refine .inr ⟨hlt, ?_⟩
    unfold ReadE
    show (if scanE b f (pl t.events.length : Nat) (t.names.length : Nat) ≠ 0 then scanE b f (pl t.events.length : Nat) (t.names.length : Nat) else if (scanV b f (pl t.events.length : Nat) (t.names.length : Nat)).time < timeD 0 t.events t.events.length then _ else _) = _ ∧ _
    rcases h.last with ⟨h1, h2⟩ | ⟨h1, h2, h3⟩
    · rw [h1, if_pos h2]
      exact ⟨rfl, h2⟩
    · rw [h2, if_neg (fun e => e rfl), if_pos h3]
      exact ⟨h1.symm, by omega⟩
theorem hds_set {t : Tr} {pl : Nat → Nat} {hs : List (Option Nat)} {i k p : Nat} {A B : List (Nat × Nat)} (e2 : opens 0 hs = A ++ (i, k) :: B) (e3 : A.length = p) (e4 : ∀ j, opens 0 (hs.set i (some j)) = A ++ (i, j) :: B) (j : Nat) : (hdsL t pl hs).set p (hdOf t pl (i, j)) = hdsL t pl (hs.set i (some j)) := by
  unfold hdsL
  rw [e2, e4, List.map_append, List.map_append, List.map_cons, List.map_cons, List.set_append_right _ _ (by rw [List.length_map]; omega), List.length_map, e3, Nat.sub_self, List.set_cons_zero]
theorem LQ.read {b : List Int} {f : Nat} {w w' : World} {g : Nat} {D : Nat → Prop} {N N' : Nat} {s : PS} {q : Nat} {NA : Option Addr} {nc : Nat} {A : Option Addr} {n c : Nat} {pl : Nat → Nat} {l : List Hd} {cl pk : Nat} {sc : List Int} (h : LQ b f w g D N s q NA nc A n c pl l cl pk) (hs : LSrc (fun k => D k ∧ k < g ∧ k ≠ q) w' q b sc f N') (hg : w.grownBy w' (some q)) : LQ b f w' g D N' s q NA nc A n c pl l cl pk :=
  ⟨h.blk.grown hg (fun e => by injection e with e; have := h.ln.qg; omega), h.ln.read hs hg, row_apart h.row hg (by have := h.ln.qg; omega), h.len, h.dv, h.walk⟩
theorem left_read {D : Nat → Prop} {w w' : World} {q : Nat} (hg : w.grownBy w' (some q)) (hq : D q) : Left D w w' := Left.of_grown hg (fun k e => by injection e with e; rw [← e]; exact hq)
theorem LQ.readC {b : List Int} {f : Nat} {w : World} {g : Nat} {D : Nat → Prop} {N : Nat} {s : PS} {q : Nat} {NA : Option Addr} {nc : Nat} {A : Option Addr} {n c : Nat} {pl : Nat → Nat} {l : List Hd} {cl pk : Nat} (h : LQ b f w g D N s q NA nc A n c pl l cl pk) (hN : N ≤ 4611686018427387904) (i k : Nat) (hk : k ≤ s.t.events.length) :
    ∃ sc, Calls Tryz.prog 77 #[.pointer (some ⟨g, 0, none⟩), .agg #[.int .i64 (hdOf s.t pl (i, k)).id, .int .i64 (hdOf s.t pl (i, k)).at_, .int .i64 (hdOf s.t pl (i, k)).ix, .int .u64 (hdOf s.t pl (i, k)).tm, .int .i64 (hdOf s.t pl (i, k)).ids]] w
      (GotRead (fun k => D k ∧ k < g ∧ k ≠ q) w q b sc f N (hdOf s.t pl (i, k)) (s.t.names.length : Nat)) := by
  obtain ⟨sc, hs⟩ := h.ln.src
  have h1 := h.walk.le k hk
  have h2 := h.walk.far k hk
  have h3 := hs.le
  have h4 := h.ln.len
  refine ⟨sc, Heads.readC _ g q b sc f N NA s.t.names.length nc _ _ _ _ _ (hdOf s.t pl (i, k)) w h.blk hs (fun j hj => h.ln.lt j hj.1) (by have := h.ln.qg; omega) hN (by omega) ?_ ?_⟩
  · show small64 ((pl k : Nat) : Int)
    exact ⟨by omega, by omega⟩
  · show 0 ≤ ((k : Nat) : Int) ∧ ((k : Nat) : Int) ≤ 1000000000000
    omega
theorem next_none {s : PS} {id : Int} (h : headP s.hs id = none) : nextP s id = (noEv, 11, s) := by unfold nextP; rw [h]
theorem next_some {s : PS} {id : Int} {k : Nat} (h : headP s.hs id = some k) (hk : k < s.t.events.length) : nextP s id = (s.t.events.getD k noEv, 0, meterP { s with hs := s.hs.set id.toNat (some (k + 1)) }) := by unfold nextP; rw [h]; simp only; rw [if_pos hk]
theorem next_end {s : PS} {id : Int} {k : Nat} (h : headP s.hs id = some k) (hk : ¬ k < s.t.events.length) : nextP s id = (noEv, s.er, s) := by unfold nextP; rw [h]; simp only; rw [if_neg hk]
theorem move_turn {b : List Int} {f : Nat} {w w' : World} {g : Nat} {D : Nat → Prop} {N : Nat} {s : PS} {q : Nat} {NA : Option Addr} {nc : Nat} {r n c : Nat} {pl : Nat → Nat} {i k p : Nat} {A B : List (Nat × Nat)} (j : Nat)
    (h : LQ b f w g D N s q NA nc (some ⟨r, 0, none⟩) n c pl (hdsL s.t pl s.hs) (cellsP s.t s.hs) s.peak) (hi : s.hs[i]? = some (some k)) (e2 : opens 0 s.hs = A ++ (i, k) :: B) (e3 : A.length = p) (e4 : ∀ j, opens 0 (s.hs.set i (some j)) = A ++ (i, j) :: B)
    (hb : Blk w' g [.pointer (some ⟨q, 0, none⟩), .slice NA s.t.names.length nc, .int .i64 (pl 0 : Nat), .int .i64 s.size, .slice (some ⟨r, 0, none⟩) n c, .int .i64 (((cellsP s.t s.hs : Nat) : Int) + ((hdOf s.t pl (i, j)).ids - (hdOf s.t pl (i, k)).ids)), .int .i64 (max (s.peak : Int) (((cellsP s.t s.hs : Nat) : Int) + ((hdOf s.t pl (i, j)).ids - (hdOf s.t pl (i, k)).ids)))])
    (hr : w'.ownsRow (g + 1) 78 5 (.slice (some ⟨r, 0, none⟩) n c) n (rowHd ((hdsL s.t pl s.hs).set p (hdOf s.t pl (i, j))))) (hl : Left (fun k => k = g ∨ k = r) w w') :
    LandL b f w' g D N (meterP { s with hs := s.hs.set i (some j) }) := by
  have hc := cells_set (t := s.t) hi (some j)
  have c1 : cellP s.t (some k) = 3 + idsAt s.t k := rfl
  have c2 : cellP s.t (some j) = 3 + idsAt s.t j := rfl
  have e1 : ((cellsP s.t s.hs : Nat) : Int) + ((hdOf s.t pl (i, j)).ids - (hdOf s.t pl (i, k)).ids) = ((cellsP s.t (s.hs.set i (some j)) : Nat) : Int) := by
    show ((cellsP s.t s.hs : Nat) : Int) + (((idsAt s.t j : Nat) : Int) - ((idsAt s.t k : Nat) : Int)) = _
    omega
  have e5 : max (s.peak : Int) ((cellsP s.t (s.hs.set i (some j)) : Nat) : Int) = ((max s.peak (cellsP s.t (s.hs.set i (some j))) : Nat) : Int) := by omega
  rw [e1, e5] at hb
  rw [hds_set e2 e3 e4] at hr
  refine ⟨q, NA, nc, some ⟨r, 0, none⟩, n, c, pl, ⟨hb, ?_, hr, ?_, h.dv, h.walk⟩⟩
  · exact h.ln.keep hl.size (fun a ha hag => hl.block a (h.ln.lt a ha) (by
      have := (h.row.lt r rfl).1
      rintro (e | e) <;> omega))
  · show (hdsL s.t pl (s.hs.set i (some j))).length = n
    have := hr.1
    rw [rowHd_len] at this
    omega
end Go.Proofs.YtimbbfneaaglbaaGreat.Heads
