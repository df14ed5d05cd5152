/-
  The landed pool: Open, Clone, Count, Cells, Peak, Index, Close, Names (stage 13). By an AI agent.
  The landed pool: Clone, Count, Cells, Peak, Index, Close, Names (stage 13). By an AI agent.
  The landed pool: Close, Names; what a pool that is none answers (stage 13). By an AI agent.
-/
import Derived.Test.YtimbbfneaaglbaaGHeadsApart42
namespace Go.Proofs.Ytimbbfneaaglbaa.Heads
open Go.RowKit Go.Proofs.Ytimbbfneaaglbaa.Ints Go.Proofs.Ytimbbfneaaglbaa.Mem Go.Proofs.Ytimbbfneaaglbaa.Trace Go.Proofs.Ytimbbfneaaglbaa.Record Go.Proofs.Ytimbbfneaaglbaa.Log Go.Proofs.Ytimbbfneaaglbaa.Src Go.Proofs.Ytimbbfneaaglbaa.Scan

theorem cells_put (t : Tr) (hs : List (Option Nat)) (k : Nat) : cellsP t (putP hs (freeP hs) k) = cellsP t hs + (3 + idsAt t k) := by
  obtain ⟨A, B, e1, -, e3, -, -⟩ := opens_put hs k
  rw [← opens_cells t (putP hs (freeP hs) k) 0, ← opens_cells t hs 0, e1, e3]
  simp only [List.map_append, List.sum_append, List.map_cons, List.sum_cons]
  omega
theorem ids_le {t : Tr} (h : ∀ e ∈ t.events, e.ids.length ≤ 64) (k : Nat) : idsAt t k ≤ 64 := by
  unfold idsAt
  split
  · omega
  · rw [List.getD_eq_getElem?_getD]
    cases hq : t.events[k - 1]? with
    | none => show (noEv).ids.length ≤ 64; exact Nat.zero_le _
    | some e => exact h e (List.mem_of_getElem? hq)
theorem cells_bd {s : PS} (hok : OkP s) (hl : s.hs.length ≤ 100000) : cellsP s.t s.hs ≤ 6700000 := by
  have := cells_le hok.atp s.hs.length
  rw [List.take_of_length_le (Nat.le_refl _)] at this
  omega
theorem left_more {D D' : Nat → Prop} {w w' : World} (h : Left D w w') (hd : ∀ q, D q → D' q) : Left D' w w' := ⟨h.os, h.tape, h.output, h.size, fun q hq hn => h.block q hq (fun e => hn (hd q e))⟩
theorem turn_ahead {b : List Int} {f : Nat} {w w1 w' : World} {g : Nat} {D : Nat → Prop} {N : Nat} {s : PS} (hb : Below w.heap.size w w1) (h : TurnL LandL b f w1 w' g D N s) : TurnL LandL b f w w' g D N s := by
  obtain ⟨D', N', h1, h2, h3, h4⟩ := h
  exact ⟨D', N', h1, fun k e => (h2 k e).imp id (fun e => Nat.le_trans hb.size e), (Left.of_below hb).trans h3 (fun _ e => .inl e), h4⟩
theorem add_turn {b : List Int} {f : Nat} {w w' : World} {g : Nat} {D : Nat → Prop} {N : Nat} {s : PS} {q : Nat} {NA : Option Addr} {nc : Nat} {A : Option Addr} {n c : Nat} {pl : Nat → Nat} (i k : Nat) {e : Ending} (hok : OkP s)
    (h : LQ b f w g D N s q NA nc A n c pl (hdsL s.t pl s.hs) (cellsP s.t s.hs) s.peak)
    (hg : GotAdd g n c (cellsP s.t s.hs) s.peak A s.size (.pointer (some ⟨q, 0, none⟩)) (.slice NA s.t.names.length nc) (.int .i64 (pl 0 : Nat)) (hdsL s.t pl s.hs) (hdOf s.t pl (i, k)) w e w') :
    e = .returned (.tuple #[.int .i64 ((addP s k).1 : Nat), .int .i64 ((addP s k).2.1 : Nat)]) ∧ TurnL LandL b f w w' g D N (addP s k).2.2 := by
  have hn : n = countP s.hs := by rw [← h.len, hds_len]
  have hroom := hok.room
  rcases hg with ⟨h1, rfl, h3⟩ | ⟨h1, p, v', rfl, hp1, hp2, hp3, hblk, hrow, hleft, hown⟩
  · have e : addP s k = (0, 12, s) := by unfold addP; rw [if_pos (by omega)]
    rw [e]
    exact ⟨rfl, turn_below ⟨q, NA, nc, A, n, c, pl, h⟩ h3⟩
  · have e : addP s k = (freeP s.hs, 0, meterP { s with hs := putP s.hs (freeP s.hs) k }) := by unfold addP; rw [if_neg (by omega)]
    obtain ⟨f1, f2⟩ := free_tells (t := s.t) (pl := pl) k (by rw [h.len]; exact hp1) hp2 hp3
    rw [e]
    refine ⟨by rw [← f1]; rfl, fun j => D j ∨ v'.ownBlock = some j, N, ?_, fun j hj => ?_, ?_, Nat.le_add_right _ _⟩
    · obtain ⟨A', c', rfl, -, -, -, -⟩ := own_sliceN hrow
      have hc := cells_put s.t s.hs k
      have e1 : ((cellsP s.t s.hs : Nat) : Int) + (3 + (hdOf s.t pl (i, k)).ids) = ((cellsP s.t (putP s.hs (freeP s.hs) k) : Nat) : Int) := by
        rw [hc]
        show ((cellsP s.t s.hs : Nat) : Int) + (3 + ((idsAt s.t k : Nat) : Int)) = _
        omega
      have e2 : max (s.peak : Int) ((cellsP s.t (putP s.hs (freeP s.hs) k) : Nat) : Int) = ((max s.peak (cellsP s.t (putP s.hs (freeP s.hs) k)) : Nat) : Int) := by omega
      have e3 : (hdsL s.t pl s.hs).take p ++ ⟨(p : Nat), (hdOf s.t pl (i, k)).at_, (hdOf s.t pl (i, k)).ix, (hdOf s.t pl (i, k)).tm, (hdOf s.t pl (i, k)).ids⟩ :: (hdsL s.t pl s.hs).drop p = hdsL s.t pl (putP s.hs (freeP s.hs) k) := f2
      rw [e1, e2] at hblk
      rw [e3] at hrow
      refine ⟨q, NA, nc, A', n + 1, c', pl, ⟨hblk, ?_, hrow, ?_, fun j hj => .inr hj, h.walk⟩⟩
      · refine (h.ln.keep hleft.size (fun j hj hjg => hleft.block j (h.ln.lt j hj) ?_)).more (fun j hj => .inl hj) (fun j hj => ?_)
        · rintro (e | e)
          · omega
          · have := (h.row.lt j e).1; omega
        · rcases hj with hj | hj
          · exact Nat.lt_of_lt_of_le (h.ln.lt j hj) hleft.size
          · exact (hrow.lt j hj).2
      · show (hdsL s.t pl (putP s.hs (freeP s.hs) k)).length = n + 1
        have := hrow.1
        rw [rowHd_len] at this
        omega
    · rcases hj with hj | hj
      · exact .inl hj
      · rcases hown j hj with e | e
        · exact .inl (h.dv j e)
        · exact .inr e
    · exact left_more hleft (fun j hj => by
        rcases hj with rfl | hj
        · exact h.ln.dg
        · exact h.dv j hj)
set_option maxHeartbeats 8000000 in
set_option maxRecDepth 100000 in
theorem land_open (b : List Int) (f : Nat) (w : World) (g : Nat) (D : Nat → Prop) (N : Nat) (s : PS) (h : LandL b f w g D N s) (hok : OkP s) (hl : s.hs.length ≤ 100000) :
    Calls Try.prog 11 #[.pointer (some ⟨g, 0, none⟩)] w fun e w' => e = .returned (.tuple #[.int .i64 ((addP s 0).1 : Nat), .int .i64 ((addP s 0).2.1 : Nat)]) ∧ TurnL LandL b f w w' g D N (addP s 0).2.2 := by
  obtain ⟨q, NA, nc, A, n, c, pl, h⟩ := h
  have hn : n = countP s.hs := by rw [← h.len, hds_len]
  have hnl := count_le s.hs
  have hcl := cells_bd hok hl
  have HST := Lib.hid (startC g _ _ _ _ _ _ (pl 0) 0 w h.blk)
  have HADD := Lib.hid (fun w1 (hb : Below w.heap.size w w1) => addC g n c _ _ A s.size _ _ _ (hdsL s.t pl s.hs) (hdOf s.t pl (0, 0)) w1 (h.below hb).blk (h.below hb).row h.len (by omega) h.nc (fun m j x y => free_mono m j x y) (by show 0 ≤ ((idsAt s.t 0 : Nat) : Int) ∧ ((idsAt s.t 0 : Nat) : Int) ≤ 1000000; have := ids_le hok.ids 0; omega) (by show ((cellsP s.t s.hs : Nat) : Int) + (3 + ((idsAt s.t 0 : Nat) : Int)) ≤ 1000000000; have := ids_le hok.ids 0; omega))
  have HEND := Lib.hid (show ∀ w1 e w', Below w.heap.size w w1 → GotAdd g n c (cellsP s.t s.hs) s.peak A s.size (.pointer (some ⟨q, 0, none⟩)) (.slice NA s.t.names.length nc) (.int .i64 (pl 0 : Nat)) (hdsL s.t pl s.hs) (hdOf s.t pl (0, 0)) w1 e w' →
      e = .returned (.tuple #[.int .i64 ((addP s 0).1 : Nat), .int .i64 ((addP s 0).2.1 : Nat)]) ∧ TurnL LandL b f w w' g D N (addP s 0).2.2 from fun w1 e w' hb hg => by
    obtain ⟨h1, h2⟩ := add_turn 0 0 hok (h.below hb) hg
    exact ⟨h1, turn_ahead hb h2⟩)
  obtain ⟨r1, hr1⟩ : ∃ r, (addP s 0).1 = r := ⟨_, rfl⟩
  obtain ⟨r2, hr2⟩ : ∃ r, (addP s 0).2.1 = r := ⟨_, rfl⟩
  obtain ⟨s', hs'⟩ : ∃ r, (addP s 0).2.2 = r := ⟨_, rfl⟩
  rw [hr1, hr2, hs'] at HEND ⊢
  clear h hr1 hr2 hs'
  go_enter Try.func11, Try.ntmps11
  go_wp2_with (first
    | (go_at_call 29; refine HST.out.mono ?_; rintro e w1 ⟨rfl, hB1⟩)
    | (go_at_call 28; refine (HADD.out w1 hB1).mono ?_; intro e w2 hG; obtain ⟨rfl, hT⟩ := HEND.out w1 e w2 hB1 hG))
  refine bodyPost_ret (v := .tuple #[.int .i64 (r1 : Nat), .int .i64 (r2 : Nat)]) (by simp [results, Try.results11, go_sem]) rfl ?_
  exact ⟨rfl, hT⟩
end Go.Proofs.Ytimbbfneaaglbaa.Heads

namespace Go.Proofs.Ytimbbfneaaglbaa.Heads
open Go.RowKit Go.Proofs.Ytimbbfneaaglbaa.Ints Go.Proofs.Ytimbbfneaaglbaa.Mem Go.Proofs.Ytimbbfneaaglbaa.Trace Go.Proofs.Ytimbbfneaaglbaa.Record Go.Proofs.Ytimbbfneaaglbaa.Log Go.Proofs.Ytimbbfneaaglbaa.Src Go.Proofs.Ytimbbfneaaglbaa.Scan

/-- A head that is open: where its row stands. -/
theorem LQ.at_ {b : List Int} {f : Nat} {w : World} {g : Nat} {D : Nat → Prop} {N : Nat} {s : PS} {q : Nat} {NA : Option Addr} {nc : Nat} {A : Option Addr} {n c : Nat} {pl : Nat → Nat} {l : List Hd} {cl pk : Nat} (h : LQ b f w g D N s q NA nc A n c pl l cl pk) {p : Nat} {x : Hd} (hx : l[p]? = some x) :
    ∃ r, A = some ⟨r, 0, none⟩ ∧ w.cell? ⟨r, p * 5, none⟩ = some (.int .i64 x.id) ∧ w.cell? ⟨r, p * 5 + 1, none⟩ = some (.int .i64 x.at_) ∧ w.cell? ⟨r, p * 5 + 2, none⟩ = some (.int .i64 x.ix) ∧ w.cell? ⟨r, p * 5 + 3, none⟩ = some (.int .u64 x.tm) ∧ w.cell? ⟨r, p * 5 + 4, none⟩ = some (.int .i64 x.ids) ∧ p < n := by
  have hp := (List.getElem?_eq_some_iff.1 hx).1
  obtain ⟨r, e, -, hc⟩ := (RdH.own h.row h.len) (by omega)
  obtain ⟨h0, h1, h2, h3, h4⟩ := hc p x hx
  exact ⟨r, e, h0, h1, h2, h3, h4, by rw [← h.len]; exact hp⟩
theorem clone_some {s : PS} {id : Int} {k : Nat} (h : headP s.hs id = some k) : cloneP s id = addP s k := by unfold cloneP; rw [h]
theorem clone_none {s : PS} {id : Int} (h : headP s.hs id = none) : cloneP s id = (0, 11, s) := by unfold cloneP; rw [h]
set_option maxHeartbeats 8000000 in
set_option maxRecDepth 100000 in
theorem land_clone (b : List Int) (f : Nat) (w : World) (g : Nat) (D : Nat → Prop) (N : Nat) (s : PS) (id : Int) (h : LandL b f w g D N s) (hok : OkP s) (hl : s.hs.length ≤ 100000) :
    Calls Try.prog 13 #[.pointer (some ⟨g, 0, none⟩), .int .i64 id] w fun e w' => e = .returned (.tuple #[.int .i64 ((cloneP s id).1 : Nat), .int .i64 ((cloneP s id).2.1 : Nat)]) ∧ TurnL LandL b f w w' g D N (cloneP s id).2.2 := by
  obtain ⟨q, NA, nc, A, n, c, pl, h⟩ := h
  have hn : n = countP s.hs := by rw [← h.len, hds_len]
  have hnl := count_le s.hs
  have hcl := cells_bd hok hl
  have HF := Lib.hid (find_land g A n c (hdsL s.t pl s.hs) id _ _ _ _ _ _ w h.blk h.len (by omega) h.nc (RdH.own h.row h.len) (hds_sorted s.t pl s.hs))
  have H := Lib.hid h
  obtain ⟨r1, hr1⟩ : ∃ r, (cloneP s id).1 = r := ⟨_, rfl⟩
  obtain ⟨r2, hr2⟩ : ∃ r, (cloneP s id).2.1 = r := ⟨_, rfl⟩
  obtain ⟨s', hs'⟩ : ∃ r, (cloneP s id).2.2 = r := ⟨_, rfl⟩
  rw [hr1, hr2, hs']
  have HR3 := Lib.hid (And.intro hr1 (And.intro hr2 hs'))
  clear h hr1 hr2 hs'
  go_enter Try.func13, Try.ntmps13
  go_wp2_with fail
  refine HF.out.mono ?_
  rintro e w1 ⟨p, bb, rfl, h1, h2, h3, hB1⟩
  rcases find_tells h1 h2 h3 with ⟨rfl, k, A1, B1, e1, e2, e3, e4, e5⟩ | ⟨rfl, e1⟩
  · obtain ⟨x, hx⟩ : ∃ x, hdOf s.t pl (id.toNat, k) = x := ⟨_, rfl⟩
    have hxp : (hdsL s.t pl s.hs)[p]? = some x := by rw [← hx]; exact hds_get (by rw [e2, ← e3, List.getElem?_append_right (Nat.le_refl _), Nat.sub_self]; rfl)
    obtain ⟨r, rfl, y0, y1, y2, y3, y4, hpn⟩ := (H.out.below hB1).at_ hxp
    have b4 := (H.out.below hB1).blk.cell 4 rfl
    have hxi : 0 ≤ x.ids ∧ x.ids ≤ 64 := by rw [← hx]; show 0 ≤ ((idsAt s.t k : Nat) : Int) ∧ ((idsAt s.t k : Nat) : Int) ≤ 64; have := ids_le hok.ids k; omega
    have HADD := Lib.hid (addC g n c _ _ _ s.size _ _ _ (hdsL s.t pl s.hs) x w1 (H.out.below hB1).blk (H.out.below hB1).row H.out.len (by omega) H.out.nc (fun m j x y => free_mono m j x y) (by omega) (by omega))
    have HEND := Lib.hid (show ∀ e w', GotAdd g n c (cellsP s.t s.hs) s.peak (some ⟨r, 0, none⟩) s.size (.pointer (some ⟨q, 0, none⟩)) (.slice NA s.t.names.length nc) (.int .i64 (pl 0 : Nat)) (hdsL s.t pl s.hs) x w1 e w' →
        e = .returned (.tuple #[.int .i64 (r1 : Nat), .int .i64 (r2 : Nat)]) ∧ TurnL LandL b f w w' g D N s' from fun e w' hg => by
      rw [← hx] at hg
      obtain ⟨h1, h2⟩ := add_turn id.toNat k hok (H.out.below hB1) hg
      have hc := clone_some e1
      obtain ⟨a1, a2, a3⟩ := HR3.out
      rw [hc] at a1 a2 a3
      rw [a1, a2] at h1
      rw [a3] at h2
      exact ⟨h1, turn_ahead hB1 h2⟩)
    clear h1 h2 h3 e1 e2 e3 e4 e5 hx hxp hxi HF HR3
    go_wp2_with (go_at_call 28; refine HADD.out.mono ?_; intro e w2 hG; obtain ⟨rfl, hT⟩ := HEND.out e w2 hG)
    refine bodyPost_ret (v := .tuple #[.int .i64 (r1 : Nat), .int .i64 (r2 : Nat)]) (by simp [results, Try.results13, go_sem]) rfl ?_
    exact ⟨rfl, hT⟩
  · have hc := clone_none e1
    obtain ⟨a1, a2, a3⟩ := HR3.out
    rw [hc] at a1 a2 a3
    have HT := Lib.hid (turn_below (b := b) (f := f) (D := D) (N := N) ⟨q, NA, nc, A, n, c, pl, H.out⟩ hB1)
    simp only at a1 a2 a3
    subst a1 a2 a3
    clear h1 h2 h3 hB1 HF
    go_wp2_with fail
    refine bodyPost_ret (v := .tuple #[.int .i64 0, .int .i64 11]) (by simp [results, Try.results13, go_sem]) rfl ?_
    exact ⟨rfl, HT.out⟩
set_option maxHeartbeats 4000000 in
theorem land_count (b : List Int) (f : Nat) (w : World) (g : Nat) (D : Nat → Prop) (N : Nat) (s : PS) (h : LandL b f w g D N s) :
    Calls Try.prog 14 #[.pointer (some ⟨g, 0, none⟩)] w fun e w' => e = .returned (.int .i64 (countP s.hs : Nat)) ∧ TurnL LandL b f w w' g D N s := by
  have HT := Lib.hid (turn_below h (Below.refl _ _))
  obtain ⟨q, NA, nc, A, n, c, pl, h⟩ := h
  have hn : n = countP s.hs := by rw [← h.len, hds_len]
  have b4 := h.blk.cell 4 rfl
  rw [← hn]
  clear h hn
  go_enter Try.func14, Try.ntmps14
  go_wp2
  go_ret
  exact ⟨rfl, HT.out⟩
set_option maxHeartbeats 4000000 in
theorem land_cells (b : List Int) (f : Nat) (w : World) (g : Nat) (D : Nat → Prop) (N : Nat) (s : PS) (h : LandL b f w g D N s) :
    Calls Try.prog 19 #[.pointer (some ⟨g, 0, none⟩)] w fun e w' => e = .returned (.int .i64 (cellsP s.t s.hs : Nat)) ∧ TurnL LandL b f w w' g D N s := by
  have HT := Lib.hid (turn_below h (Below.refl _ _))
  obtain ⟨q, NA, nc, A, n, c, pl, h⟩ := h
  have b5 := h.blk.cell 5 rfl
  clear h
  go_enter Try.func19, Try.ntmps19
  go_wp2
  go_ret
  exact ⟨rfl, HT.out⟩
set_option maxHeartbeats 4000000 in
theorem land_peak (b : List Int) (f : Nat) (w : World) (g : Nat) (D : Nat → Prop) (N : Nat) (s : PS) (h : LandL b f w g D N s) :
    Calls Try.prog 20 #[.pointer (some ⟨g, 0, none⟩)] w fun e w' => e = .returned (.int .i64 (s.peak : Nat)) ∧ TurnL LandL b f w w' g D N s := by
  have HT := Lib.hid (turn_below h (Below.refl _ _))
  obtain ⟨q, NA, nc, A, n, c, pl, h⟩ := h
  have b6 := h.blk.cell 6 rfl
  clear h
  go_enter Try.func20, Try.ntmps20
  go_wp2
  go_ret
  exact ⟨rfl, HT.out⟩
set_option maxHeartbeats 8000000 in
set_option maxRecDepth 100000 in
theorem land_index (b : List Int) (f : Nat) (w : World) (g : Nat) (D : Nat → Prop) (N : Nat) (s : PS) (id : Int) (h : LandL b f w g D N s) (hl : s.hs.length ≤ 100000) :
    Calls Try.prog 17 #[.pointer (some ⟨g, 0, none⟩), .int .i64 id] w fun e w' => e = .returned (.tuple #[.int .i64 (((headP s.hs id).getD 0 : Nat) : Int), .bool (headP s.hs id).isSome]) ∧ TurnL LandL b f w w' g D N s := by
  have HT := Lib.hid (fun w' (hb : Below w.heap.size w w') => turn_below h hb)
  obtain ⟨q, NA, nc, A, n, c, pl, h⟩ := h
  have hn : n = countP s.hs := by rw [← h.len, hds_len]
  have hnl := count_le s.hs
  have HF := Lib.hid (find_land g A n c (hdsL s.t pl s.hs) id _ _ _ _ _ _ w h.blk h.len (by omega) h.nc (RdH.own h.row h.len) (hds_sorted s.t pl s.hs))
  have H := Lib.hid h
  clear h
  obtain ⟨o, ho⟩ : ∃ o, headP s.hs id = o := ⟨_, rfl⟩
  rw [ho]
  have HO := Lib.hid ho
  clear ho
  go_enter Try.func17, Try.ntmps17
  go_wp2_with fail
  refine HF.out.mono ?_
  rintro e w1 ⟨p, bb, rfl, h1, h2, h3, hB1⟩
  rcases find_tells h1 h2 h3 with ⟨rfl, k, A1, B1, e1, e2, e3, e4, e5⟩ | ⟨rfl, e1⟩
  · have ho := HO.out
    rw [e1] at ho
    subst ho
    obtain ⟨r, rfl, -, -, y2, -, -, hpn⟩ := (H.out.below hB1).at_ (hds_get (t := s.t) (pl := pl) (j := p) (u := (id.toNat, k)) (by rw [e2, ← e3, List.getElem?_append_right (Nat.le_refl _), Nat.sub_self]; rfl))
    have y2' : w1.cell? ⟨r, p * 5 + 2, none⟩ = some (.int .i64 (k : Nat)) := y2
    have b4 := (H.out.below hB1).blk.cell 4 rfl
    have HT2 := Lib.hid (HT.out w1 hB1)
    clear h1 h2 h3 e1 e2 e3 e4 e5 HF HT hB1 H y2
    go_wp2_with fail
    refine bodyPost_ret (v := .tuple #[.int .i64 (k : Nat), .bool true]) (by simp [results, Try.results17, go_sem]) rfl ?_
    exact ⟨rfl, HT2.out⟩
  · have ho := HO.out
    rw [e1] at ho
    subst ho
    have HT2 := Lib.hid (HT.out w1 hB1)
    clear h1 h2 h3 e1 HF HT hB1 H
    go_wp2_with fail
    refine bodyPost_ret (v := .tuple #[.int .i64 0, .bool false]) (by simp [results, Try.results17, go_sem]) rfl ?_
    exact ⟨rfl, HT2.out⟩
end Go.Proofs.Ytimbbfneaaglbaa.Heads

namespace Go.Proofs.Ytimbbfneaaglbaa.Heads
open Go.RowKit Go.Proofs.Ytimbbfneaaglbaa.Ints Go.Proofs.Ytimbbfneaaglbaa.Mem Go.Proofs.Ytimbbfneaaglbaa.Trace Go.Proofs.Ytimbbfneaaglbaa.Record Go.Proofs.Ytimbbfneaaglbaa.Log Go.Proofs.Ytimbbfneaaglbaa.Src Go.Proofs.Ytimbbfneaaglbaa.Scan

theorem rowHd_del (l : List Hd) (i : Nat) (hi : i < l.length) : (rowHd l).take (i * 5) ++ (rowHd l).drop ((i + 1) * 5) = rowHd (l.take i ++ l.drop (i + 1)) := by
  have e1 : rowHd l = rowHd (l.take i) ++ rowHd (l.drop i) := by rw [← rowHd_append, List.take_append_drop]
  have e2 : rowHd l = rowHd (l.take (i + 1)) ++ rowHd (l.drop (i + 1)) := by rw [← rowHd_append, List.take_append_drop]
  have l1 : (rowHd (l.take i)).length = i * 5 := by rw [rowHd_len, List.length_take, Nat.min_eq_left (by omega)]
  have l2 : (rowHd (l.take (i + 1))).length = (i + 1) * 5 := by rw [rowHd_len, List.length_take, Nat.min_eq_left (by omega)]
  rw [rowHd_append]
  congr 1
  · rw [e1, List.take_left' l1]
  · rw [e2, List.drop_left' l2]
theorem delH (B r n c i : Nat) (l : List Hd) (w : World) (hrow : w.ownsRow B 72 5 (.slice (some ⟨r, 0, none⟩) n c) n (rowHd l)) (hl : l.length = n) (hi : i < n) :
    Calls Try.prog 35 #[.slice (some ⟨r, 0, none⟩) n c, .int .i64 (i : Nat), .int .i64 ((i : Int) + 1)] w fun e w' => e = .returned (.slice (some ⟨r, 0, none⟩) (n - 1) c) ∧
      w'.ownsRow B 72 5 (.slice (some ⟨r, 0, none⟩) (n - 1) c) (n - 1) (rowHd (l.take i ++ l.drop (i + 1))) ∧ w.grownBy w' (some r) := by
  have hxl := hrow.1
  rcases hrow.2 with ⟨e1, -⟩ | ⟨g, c', cur, e1, hB, hg, hnc, hcm, hcs, htk⟩
  · cases e1
  injection e1 with e1 e2 e3
  injection e1 with e1
  injection e1 with e1 _ _
  subst e1
  subst e3
  have q63 : maxLen = 9223372036854775807 := rfl
  have h := del_row r n c i (i + 1) cur (rowHd l) w hg hcs hnc htk hxl (by omega) (by omega) (rowHd_one l)
  rw [show ((i + 1 : Nat) : Int) = (i : Int) + 1 by omega, show i + (n - (i + 1)) = n - 1 by omega] at h
  refine h.mono ?_
  rintro e w' ⟨rfl, cur', g1, g2, g3, g4⟩
  rw [rowHd_del l i (by omega)] at g3
  refine ⟨rfl, ⟨?_, .inr ⟨r, c, cur', rfl, hB, g1, by omega, hcm, g2, g3⟩⟩, g4⟩
  rw [rowHd_len, List.length_append, List.length_take, List.length_drop, Nat.min_eq_left (by omega)]
  omega
theorem close_some {s : PS} {id : Int} {k : Nat} (h : headP s.hs id = some k) : closeP s id = (true, { s with hs := s.hs.set id.toNat none }) := by unfold closeP; rw [h]
theorem close_none {s : PS} {id : Int} (h : headP s.hs id = none) : closeP s id = (false, s) := by unfold closeP; rw [h]
set_option maxHeartbeats 8000000 in
set_option maxRecDepth 100000 in
theorem land_close (b : List Int) (f : Nat) (w : World) (g : Nat) (D : Nat → Prop) (N : Nat) (s : PS) (id : Int) (h : LandL b f w g D N s) (hok : OkP s) (hl : s.hs.length ≤ 100000) :
    Calls Try.prog 16 #[.pointer (some ⟨g, 0, none⟩), .int .i64 id] w fun e w' => e = .returned (.bool (closeP s id).1) ∧ TurnL LandL b f w w' g D N (closeP s id).2 := by
  obtain ⟨q, NA, nc, A, n, c, pl, h⟩ := h
  have hn : n = countP s.hs := by rw [← h.len, hds_len]
  have hnl := count_le s.hs
  have hcl := cells_bd hok hl
  have HF := Lib.hid (find_land g A n c (hdsL s.t pl s.hs) id _ _ _ _ _ _ w h.blk h.len (by omega) h.nc (RdH.own h.row h.len) (hds_sorted s.t pl s.hs))
  have H := Lib.hid h
  obtain ⟨r1, hr1⟩ : ∃ r, (closeP s id).1 = r := ⟨_, rfl⟩
  obtain ⟨s', hs'⟩ : ∃ r, (closeP s id).2 = r := ⟨_, rfl⟩
  rw [hr1, hs']
  have HR3 := Lib.hid (And.intro hr1 hs')
  clear h hr1 hs'
  go_enter Try.func16, Try.ntmps16
  go_wp2_with fail
  refine HF.out.mono ?_
  rintro e w1 ⟨p, bb, rfl, h1, h2, h3, hB1⟩
  rcases find_tells h1 h2 h3 with ⟨rfl, k, A1, B1, e1, e2, e3, e4, e5⟩ | ⟨rfl, e1⟩
  · obtain ⟨x, hx⟩ : ∃ x, hdOf s.t pl (id.toNat, k) = x := ⟨_, rfl⟩
    have hxp : (hdsL s.t pl s.hs)[p]? = some x := by rw [← hx]; exact hds_get (by rw [e2, ← e3, List.getElem?_append_right (Nat.le_refl _), Nat.sub_self]; rfl)
    have H1 := Lib.hid (H.out.below hB1)
    obtain ⟨r, rfl, y0, y1, y2, y3, y4, hpn⟩ := H1.out.at_ hxp
    have b4 := H1.out.blk.cell 4 rfl
    have hxi : x.ids = ((idsAt s.t k : Nat) : Int) := by rw [← hx]; rfl
    have hi64 := ids_le hok.ids k
    have hset := cells_set (t := s.t) (head_some e1).2.2 none
    have hcp : cellP s.t (some k) = 3 + idsAt s.t k := rfl
    have hcn : cellP s.t none = 0 := rfl
    have hpk := hok.peak
    have HCE := Lib.hid (fun W => cellsC x W (by omega))
    have hneg : IntKind.i64.wrap (-(3 + x.ids)) = -(3 + x.ids) := by rw [IntKind.wrap_i64]; omega
    have hcl2 : ((cellsP s.t s.hs : Nat) : Int) + -(3 + x.ids) = ((cellsP s.t (s.hs.set id.toNat none) : Nat) : Int) := by omega
    have hpk2 : max (s.peak : Int) ((cellsP s.t (s.hs.set id.toNat none) : Nat) : Int) = ((s.peak : Nat) : Int) := by omega
    have HCO := Lib.hid (fun W (hb : Below w1.heap.size w1 W) => countC g _ _ (-(3 + x.ids)) _ _ _ _ _ W (H1.out.below hb).blk (by omega))
    rw [hcl2, hpk2] at HCO
    have HP := Lib.hid (And.intro hpn (And.intro e2 (And.intro e3 (And.intro e5 e1))))
    have hgr : g < r := by have := (H1.out.row.lt r rfl).1; omega
    have hpb : p ≤ 100000 := by omega
    clear h1 h2 h3 e1 e2 e3 e4 e5 hx hxp hset hcl2 hpk2 hcp hcn hpk HF hxi hi64 hn hnl
    go_wp2_with (first
      | (go_at_call 34; refine (HCE.out _).mono ?_; rintro e w2 ⟨rfl, hB2⟩)
      | (go_at_call 33; refine (HCO.out w2 hB2).mono ?_; rintro e w3 ⟨rfl, hb3, hg3⟩; have b43 := hb3.cell 4 rfl)
      | (go_at_call 35; refine (delH (g + 1) r n c p (hdsL s.t pl s.hs) w3 (row_apart (H1.out.below hB2).row hg3 (Nat.lt_succ_self g)) H.out.len hpn).mono ?_; rintro e w4 ⟨rfl, hrow4, hg4⟩; have b44 := (hb3.grown hg4 (fun e => by injection e with e; omega)).cell 4 rfl; have f44 := (hb3.grown hg4 (fun e => by injection e with e; omega)).fz 4 rfl))
    have hb4 := hb3.grown hg4 (fun e => by injection e with e; omega)
    have hb5 := hb4.set 4 (.slice (some ⟨r, 0, none⟩) (n - 1) c) (by simp)
    have HL : Left (fun k => k = g ∨ k = r) w (w4.setCell ⟨g, 4, none⟩ (.slice (some ⟨r, 0, none⟩) (n - 1) c)) :=
      left_set ((((Left.of_below hB1).trans (Left.of_below (D := fun k => k = g ∨ k = r) hB2) (fun _ e => .inl e)).trans (Left.of_grown (D := fun k => k = g ∨ k = r) hg3 (fun q e => by injection e with e; exact .inl e.symm)) (fun _ e => .inl e)).trans (Left.of_grown (D := fun k => k = g ∨ k = r) hg4 (fun q e => by injection e with e; exact .inr e.symm)) (fun _ e => .inl e)) ⟨g, 4, none⟩ _ (.inl (.inl rfl))
    have HEND := Lib.hid (show r1 = true ∧ TurnL LandL b f w (w4.setCell ⟨g, 4, none⟩ (.slice (some ⟨r, 0, none⟩) (n - 1) c)) g D N s' from by
      obtain ⟨-, e2, e3, e5, e1⟩ := HP.out
      have hc := close_some e1
      obtain ⟨a1, a2⟩ := HR3.out
      rw [hc] at a1 a2
      refine ⟨a1.symm, ?_⟩
      rw [← a2]
      have e6 : (hdsL s.t pl s.hs).take p ++ (hdsL s.t pl s.hs).drop (p + 1) = hdsL s.t pl (s.hs.set id.toNat none) := by
        unfold hdsL
        rw [e2, e5, List.map_append, List.map_append, List.map_cons, List.take_left' (by rw [List.length_map, e3])]
        congr 1
        rw [← List.singleton_append, ← List.append_assoc, List.drop_left' (by simp [e3])]
      rw [e6] at hrow4
      refine ⟨D, N, ⟨q, NA, nc, some ⟨r, 0, none⟩, n - 1, c, pl, ⟨hb5, ?_, row_apart hrow4 (grown_cell w4 ⟨g, 4, none⟩ _) (Nat.lt_succ_self g), ?_, fun j hj => H.out.dv j hj, H.out.walk⟩⟩, fun _ e => .inl e, left_more HL (fun j hj => ?_), Nat.le_add_right _ _⟩
      · exact H.out.ln.keep HL.size (fun j hj hjg => HL.block j (H.out.ln.lt j hj) (by rintro (e | e) <;> omega))
      · show (hdsL s.t pl (s.hs.set id.toNat none)).length = n - 1
        have := hrow4.1
        rw [rowHd_len] at this
        omega
      · rcases hj with rfl | rfl
        · exact H.out.ln.dg
        · exact H.out.dv j rfl)
    go_ret
    obtain ⟨h1, h2⟩ := HEND.out
    exact ⟨by first | exact h1 | exact h1.symm | (rw [h1]; rfl), h2⟩
  · have hc := close_none e1
    obtain ⟨a1, a2⟩ := HR3.out
    rw [hc] at a1 a2
    have HT := Lib.hid (turn_below (b := b) (f := f) (D := D) (N := N) ⟨q, NA, nc, A, n, c, pl, H.out⟩ hB1)
    simp only at a1 a2
    subst a1 a2
    clear h1 h2 h3 hB1 HF
    go_wp2_with fail
    go_ret
    exact ⟨rfl, HT.out⟩
end Go.Proofs.Ytimbbfneaaglbaa.Heads
