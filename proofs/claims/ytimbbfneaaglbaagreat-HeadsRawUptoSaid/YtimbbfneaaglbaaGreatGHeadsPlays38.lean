/-
  The walk of the landed pool's read (stage 13). By an AI agent.
-/
import Derived.Test.YtimbbfneaaglbaaGreatGHeadsPlays36
import Derived.Test.YtimbbfneaaglbaaGreatGHeadsPlays37
import Derived.StillTailTactics
namespace Go.Proofs.YtimbbfneaaglbaaGreat.Heads
open Go.RowKit Go.Proofs.YtimbbfneaaglbaaGreat.Ints Go.Proofs.YtimbbfneaaglbaaGreat.Mem Go.Proofs.YtimbbfneaaglbaaGreat.Trace Go.Proofs.YtimbbfneaaglbaaGreat.Record Go.Proofs.YtimbbfneaaglbaaGreat.Log Go.Proofs.YtimbbfneaaglbaaGreat.Src Go.Proofs.YtimbbfneaaglbaaGreat.Scan

theorem grown_set {w W : World} {row : Option Nat} (h : w.grownBy W row) (p : Addr) (u : Value) (hp : w.heap.size ≤ p.block) : w.grownBy (W.setCell p u) row :=
  ⟨h.os, h.tape, h.output, by simpa using h.size, fun b hb hne => by rw [Below.heap_setCell W p u b (by omega)]; exact h.block b hb hne⟩
theorem lsrc_set {S : Nat → Prop} {W : World} {q : Nat} {b sc : List Int} {f N : Nat} (h : LSrc S W q b sc f N) (p : Addr) (u : Value) (hq : p.block ≠ q) (hS : ¬ S p.block) : LSrc S (W.setCell p u) q b sc f N :=
  h.kept (grown_cell W p u) (fun e => by injection e with e; exact hq e.symm) (fun k hk e => by injection e with e; rw [e] at hk; exact hS hk)
theorem evok_cell {W : World} {x : Ev} {K : Option Addr} {c : Nat} (h : EvOk W x K c) (p : Addr) (u : Value) (hne : ∀ a, K = some a → 0 < x.ids.length → a.block ≠ p.block) : EvOk (W.setCell p u) x K c :=
  ⟨h.1, rd_grown h.2.1 (grown_cell W p u) (fun a e h0 e2 => by injection e2 with e2; exact hne a e h0 e2), h.2.2⟩
/-! ### what is stored into the two blocks of results -/
theorem put7_cells {W : World} {e h : Nat} {a0 a1 b0 b1 b2 b3 b4 : Value} (he : Blk W e [a0, a1]) (hh : Blk W h [b0, b1, b2, b3, b4]) (hne : e ≠ h) (v0 v1 y0 y1 y2 y3 y4 : Value) :
    Blk (((((((W.setCell ⟨e, 0, none⟩ v0).setCell ⟨e, 1, none⟩ v1).setCell ⟨h, 0, none⟩ y0).setCell ⟨h, 1, none⟩ y1).setCell ⟨h, 2, none⟩ y2).setCell ⟨h, 3, none⟩ y3).setCell ⟨h, 4, none⟩ y4) e [v0, v1] ∧
    Blk (((((((W.setCell ⟨e, 0, none⟩ v0).setCell ⟨e, 1, none⟩ v1).setCell ⟨h, 0, none⟩ y0).setCell ⟨h, 1, none⟩ y1).setCell ⟨h, 2, none⟩ y2).setCell ⟨h, 3, none⟩ y3).setCell ⟨h, 4, none⟩ y4) h [y0, y1, y2, y3, y4] := by
  have h1 := ((he.set 0 v0 (by simp)).set 1 v1 (by simp))
  have h2 := ((hh.other ⟨e, 0, none⟩ v0 (fun q => hne q.symm)).other ⟨e, 1, none⟩ v1 (fun q => hne q.symm))
  exact ⟨((((h1.other ⟨h, 0, none⟩ y0 hne).other ⟨h, 1, none⟩ y1 hne).other ⟨h, 2, none⟩ y2 hne).other ⟨h, 3, none⟩ y3 hne).other ⟨h, 4, none⟩ y4 hne,
    ((((h2.set 0 y0 (by simp)).set 1 y1 (by simp)).set 2 y2 (by simp)).set 3 y3 (by simp)).set 4 y4 (by simp)⟩
theorem put7_src {S : Nat → Prop} {W : World} {q e h : Nat} {b sc : List Int} {f N : Nat} (hs : LSrc S W q b sc f N) (he : e ≠ q ∧ ¬ S e) (hh : h ≠ q ∧ ¬ S h) (v0 v1 y0 y1 y2 y3 y4 : Value) :
    LSrc S (((((((W.setCell ⟨e, 0, none⟩ v0).setCell ⟨e, 1, none⟩ v1).setCell ⟨h, 0, none⟩ y0).setCell ⟨h, 1, none⟩ y1).setCell ⟨h, 2, none⟩ y2).setCell ⟨h, 3, none⟩ y3).setCell ⟨h, 4, none⟩ y4) q b sc f N :=
  lsrc_set (lsrc_set (lsrc_set (lsrc_set (lsrc_set (lsrc_set (lsrc_set hs _ _ he.1 he.2) _ _ he.1 he.2) _ _ hh.1 hh.2) _ _ hh.1 hh.2) _ _ hh.1 hh.2) _ _ hh.1 hh.2) _ _ hh.1 hh.2
theorem put7_grown {w W : World} {row : Option Nat} {e h : Nat} (hg : w.grownBy W row) (he : w.heap.size ≤ e) (hh : w.heap.size ≤ h) (v0 v1 y0 y1 y2 y3 y4 : Value) :
    w.grownBy (((((((W.setCell ⟨e, 0, none⟩ v0).setCell ⟨e, 1, none⟩ v1).setCell ⟨h, 0, none⟩ y0).setCell ⟨h, 1, none⟩ y1).setCell ⟨h, 2, none⟩ y2).setCell ⟨h, 3, none⟩ y3).setCell ⟨h, 4, none⟩ y4) row :=
  grown_set (grown_set (grown_set (grown_set (grown_set (grown_set (grown_set hg _ _ he) _ _ he) _ _ hh) _ _ hh) _ _ hh) _ _ hh) _ _ hh
theorem put7_ev {W : World} {x : Ev} {K : Option Addr} {c e h : Nat} (hx : EvOk W x K c) (he : ∀ a, K = some a → 0 < x.ids.length → a.block ≠ e) (hh : ∀ a, K = some a → 0 < x.ids.length → a.block ≠ h) (v0 v1 y0 y1 y2 y3 y4 : Value) :
    EvOk (((((((W.setCell ⟨e, 0, none⟩ v0).setCell ⟨e, 1, none⟩ v1).setCell ⟨h, 0, none⟩ y0).setCell ⟨h, 1, none⟩ y1).setCell ⟨h, 2, none⟩ y2).setCell ⟨h, 3, none⟩ y3).setCell ⟨h, 4, none⟩ y4) x K c :=
  evok_cell (evok_cell (evok_cell (evok_cell (evok_cell (evok_cell (evok_cell hx _ _ he) _ _ he) _ _ hh) _ _ hh) _ _ hh) _ _ hh) _ _ hh
theorem put7_off {W : World} {e h k : Nat} {vs : List Value} (hb : Blk W k vs) (he : k ≠ e) (hh : k ≠ h) (v0 v1 y0 y1 y2 y3 y4 : Value) :
    Blk (((((((W.setCell ⟨e, 0, none⟩ v0).setCell ⟨e, 1, none⟩ v1).setCell ⟨h, 0, none⟩ y0).setCell ⟨h, 1, none⟩ y1).setCell ⟨h, 2, none⟩ y2).setCell ⟨h, 3, none⟩ y3).setCell ⟨h, 4, none⟩ y4) k vs :=
  ((((((hb.other ⟨e, 0, none⟩ v0 he).other ⟨e, 1, none⟩ v1 he).other ⟨h, 0, none⟩ y0 hh).other ⟨h, 1, none⟩ y1 hh).other ⟨h, 2, none⟩ y2 hh).other ⟨h, 3, none⟩ y3 hh).other ⟨h, 4, none⟩ y4 hh
/-- What the landed read answers. -/
def ReadE (b : List Int) (f : Nat) (x : Hd) (props : Int) : Nat := if scanE b f x.at_ props ≠ 0 then scanE b f x.at_ props else if (scanV b f x.at_ props).time < x.tm then 8 else 0
def GotRead (S : Nat → Prop) (w : World) (q : Nat) (b sc : List Int) (f N : Nat) (x : Hd) (props : Int) (e : Ending) (w' : World) : Prop :=
  ∃ N', LSrc S w' q b sc f N' ∧ N' ≤ N + 78 ∧ w.grownBy w' (some q) ∧
    ((ReadE b f x props ≠ 0 ∧ e = .returned (.tuple #[.agg #[.int .u64 0, .slice none 0 0], .agg #[.int .i64 0, .int .i64 0, .int .i64 0, .int .u64 0, .int .i64 0], .int .i64 (ReadE b f x props : Nat)])) ∨
     (ReadE b f x props = 0 ∧ ∃ K c, e = .returned (.tuple #[.agg #[.int .u64 (scanV b f x.at_ props).time, .slice K (scanV b f x.at_ props).ids.length c], .agg #[.int .i64 x.id, .int .i64 (scanN b f x.at_ props : Nat), .int .i64 (x.ix + 1), .int .u64 (scanV b f x.at_ props).time, .int .i64 ((scanV b f x.at_ props).ids.length : Nat)], .int .i64 0]) ∧
       EvOk w' (scanV b f x.at_ props) K c ∧ ∀ a, K = some a → w.heap.size ≤ a.block))

theorem got_drew {S : Nat → Prop} {w : World} {q : Nat} {b sc : List Int} {f N : Nat} {x : Hd} {props : Int} {e : Ending} {w' : World} (h : GotRead S w q b sc f N x props e w') : GotRead S w q b sc f N x props e w'.drew := by
  obtain ⟨N', h1, h2, h3, h4⟩ := h
  refine ⟨N', h1.below (Below.refl _ _).drew, h2, ⟨h3.os, h3.tape, h3.output, h3.size, h3.block⟩, ?_⟩
  rcases h4 with h4 | ⟨h5, K, c, h6, h7, h8⟩
  · exact .inl h4
  · exact .inr ⟨h5, K, c, h6, h7.below (Below.refl _ _).drew, h8⟩
set_option maxHeartbeats 8000000 in
set_option maxRecDepth 100000 in
theorem readC (S : Nat → Prop) (g q : Nat) (b sc : List Int) (f N : Nat) (NA : Option Addr) (nn nc : Nat) (u2 u3 u4 u5 u6 : Value) (x : Hd) (w : World) (hb : Blk w g [.pointer (some ⟨q, 0, none⟩), .slice NA nn nc, u2, u3, u4, u5, u6]) (hs : LSrc S w q b sc f N) (hS : ∀ k, S k → k < w.heap.size) (hgq : g ≠ q)
    (hN : N ≤ 4611686018427387904) (hM : b.length ≤ 140737488357232) (hx : small64 x.at_) (hix : 0 ≤ x.ix ∧ x.ix ≤ 1000000000000) :
    Calls Tryz.prog 77 #[.pointer (some ⟨g, 0, none⟩), .agg #[.int .i64 x.id, .int .i64 x.at_, .int .i64 x.ix, .int .u64 x.tm, .int .i64 x.ids]] w (GotRead S w q b sc f N x (nn : Nat)) := by
  have q63 : maxLen = 9223372036854775807 := rfl
  obtain ⟨hx1, hx2⟩ := hx
  obtain ⟨hi1, hi2⟩ := hix
  obtain ⟨T1, hT1⟩ : ∃ T1, w.alloc (.cells #[.int .i64 x.id, .int .i64 x.at_, .int .i64 x.ix, .int .u64 x.tm, .int .i64 x.ids] 78) = T1 := ⟨_, rfl⟩
  have hal1 : Below w.heap.size w T1 := by rw [← hT1]; exact (Below.refl _ w).alloc (Nat.le_refl _) _
  have hz1 : T1.heap.size = w.heap.size + 1 := by rw [← hT1]; simp
  have bx1 : Blk T1 w.heap.size [.int .i64 x.id, .int .i64 x.at_, .int .i64 x.ix, .int .u64 x.tm, .int .i64 x.ids] := by rw [← hT1]; exact Blk.new w _ _ _ rfl
  obtain ⟨T2, hT2⟩ : ∃ T2, T1.alloc (.cells #[.int .u64 0, .slice none 0 0] 38) = T2 := ⟨_, rfl⟩
  have hal2 : Below w.heap.size w T2 := by rw [← hT2]; exact hal1.alloc (by omega) _
  have hz2 : T2.heap.size = w.heap.size + 2 := by rw [← hT2]; simp; omega
  have bx2 : Blk T2 w.heap.size [.int .i64 x.id, .int .i64 x.at_, .int .i64 x.ix, .int .u64 x.tm, .int .i64 x.ids] := by rw [← hT2]; exact bx1.alloc _
  have be2 : Blk T2 (w.heap.size + 1) [.int .u64 0, .slice none 0 0] := by rw [← hT2, ← hz1]; exact Blk.new T1 _ _ _ rfl
  obtain ⟨T3, hT3⟩ : ∃ T3, T2.alloc (.cells #[.int .i64 0, .int .i64 0, .int .i64 0, .int .u64 0, .int .i64 0] 78) = T3 := ⟨_, rfl⟩
  have hal3 : Below w.heap.size w T3 := by rw [← hT3]; exact hal2.alloc (by omega) _
  have hz3 : T3.heap.size = w.heap.size + 3 := by rw [← hT3]; simp; omega
  have bx3 : Blk T3 w.heap.size [.int .i64 x.id, .int .i64 x.at_, .int .i64 x.ix, .int .u64 x.tm, .int .i64 x.ids] := by rw [← hT3]; exact bx2.alloc _
  have be3 : Blk T3 (w.heap.size + 1) [.int .u64 0, .slice none 0 0] := by rw [← hT3]; exact be2.alloc _
  have bh3 : Blk T3 (w.heap.size + 2) [.int .i64 0, .int .i64 0, .int .i64 0, .int .u64 0, .int .i64 0] := by rw [← hT3, ← hz2]; exact Blk.new T2 _ _ _ rfl
  have hb3 := hb.later hal3
  have hs3 := hs.below hal3
  have hql := hs.lt
  have hgl := hb.1
  obtain ⟨V, hV⟩ : ∃ V, T3.drew = V := ⟨_, rfl⟩
  have hbV : Blk V g [.pointer (some ⟨q, 0, none⟩), .slice NA nn nc, u2, u3, u4, u5, u6] := by rw [← hV]; exact hb3.drew
  have hsV : LSrc S V q b sc f N := by rw [← hV]; exact hs3.below (Below.refl _ _).drew
  have bxV : Blk V w.heap.size [.int .i64 x.id, .int .i64 x.at_, .int .i64 x.ix, .int .u64 x.tm, .int .i64 x.ids] := by rw [← hV]; exact bx3.drew
  have beV : Blk V T1.heap.size [.int .u64 0, .slice none 0 0] := by rw [← hV, hz1]; exact be3.drew
  have bhV : Blk V T2.heap.size [.int .i64 0, .int .i64 0, .int .i64 0, .int .u64 0, .int .i64 0] := by rw [← hV, hz2]; exact bh3.drew
  have hzV : V.heap.size = w.heap.size + 3 := by rw [← hV]; exact hz3
  have hgV : w.grownBy V (some q) := by rw [← hV]; exact grown_below hal3.drew (some q)
  have b0 := hb3.cell 0 rfl
  have b1 := hb3.cell 1 rfl
  have x1 := bx3.cell 1 rfl
  have HSTEP := Lib.hid (show ∀ W, Below V.heap.size V W → Calls Tryz.prog 96 #[.pointer (some ⟨q, 0, none⟩), .int .i64 x.at_, .int .i64 (nn : Nat)] W (GotRecS S W q b sc f N x.at_ (nn : Nat)) from
    fun W hW => landRec S q b sc f N x.at_ (nn : Nat) W (hsV.below hW) hN ⟨hx1, hx2⟩ hM)
  have HBV := Lib.hid hbV
  have HXV := Lib.hid bxV
  have HEV := Lib.hid beV
  have HHV := Lib.hid bhV
  have HGV := Lib.hid hgV
  have HNE := Lib.hid (And.intro hs.ne hs.lt)
  have HSS := Lib.hid hS
  have HZ := Lib.hid (And.intro hzV (And.intro hz1 hz2))
  unfold GotRecS at HSTEP
  have HGOT := Lib.hid (show ∀ e w', (∃ N', LSrc S w' q b sc f N' ∧ N' ≤ N + 78 ∧ w.grownBy w' (some q) ∧
    ((ReadE b f x (nn : Nat) ≠ 0 ∧ e = .returned (.tuple #[.agg #[.int .u64 0, .slice none 0 0], .agg #[.int .i64 0, .int .i64 0, .int .i64 0, .int .u64 0, .int .i64 0], .int .i64 (ReadE b f x (nn : Nat) : Nat)])) ∨
     (ReadE b f x (nn : Nat) = 0 ∧ ∃ K c, e = .returned (.tuple #[.agg #[.int .u64 (scanV b f x.at_ (nn : Nat)).time, .slice K (scanV b f x.at_ (nn : Nat)).ids.length c], .agg #[.int .i64 x.id, .int .i64 (scanN b f x.at_ (nn : Nat) : Nat), .int .i64 (x.ix + 1), .int .u64 (scanV b f x.at_ (nn : Nat)).time, .int .i64 ((scanV b f x.at_ (nn : Nat)).ids.length : Nat)], .int .i64 0]) ∧
       EvOk w' (scanV b f x.at_ (nn : Nat)) K c ∧ ∀ a, K = some a → w.heap.size ≤ a.block))) → GotRead S w q b sc f N x (nn : Nat) e w' from fun e w' h => h)
  obtain ⟨rE, hrE⟩ : ∃ rE, ReadE b f x (nn : Nat) = rE := ⟨_, rfl⟩
  have hrE' := hrE
  unfold ReadE at hrE'
  rw [hrE] at HGOT
  obtain ⟨er, her⟩ : ∃ er, scanE b f x.at_ (nn : Nat) = er := ⟨_, rfl⟩
  obtain ⟨X, hX⟩ : ∃ X, scanV b f x.at_ (nn : Nat) = X := ⟨_, rfl⟩
  obtain ⟨nx, hnx⟩ : ∃ nx, scanN b f x.at_ (nn : Nat) = nx := ⟨_, rfl⟩
  rw [hX, hnx] at HGOT
  rw [her, hX] at hrE'
  simp only [her, hX, hnx] at HSTEP
  have HRE := Lib.hid hrE'
  clear hrE hrE' her hX hnx
  clear hbV hsV bxV beV bhV hgV hb3 hs3 hs hS hal1 hal2 hal3 bx1 bx2 bx3 be2 be3 bh3 hz1 hz2 hz3 hb
  go_enter Tryz.func77, Tryz.ntmps77
  go_wp2_with fail
  refine wp_region_held_drew (S := fun W => W.cell? ⟨g, 0, none⟩ = some (.pointer (some ⟨q, 0, none⟩)) ∧ W.cell? ⟨g, 1, none⟩ = some (.slice NA nn nc) ∧ W.cell? ⟨w.heap.size, 1, none⟩ = some (.int .i64 x.at_)) (by kernel_rfl) ⟨b0, b1, x1⟩ (fun hHeld => ?_)
  rw [hV] at hHeld ⊢
  clear b0 b1 x1 hV hT1 hT2 hT3 hzV
  refine wpAnyH_take (i := 0) (oi := ?tko1) (v := ?tkv1) ?tkh1 (by kernel_rfl) (by kernel_rfl) (by kernel_rfl) ?tkq1 ?tky1 hHeld ?tkr1
  case tkh1 => (simp only [List.getElem?_toArray, List.getElem?_cons_zero]; rfl)
  case tkq1 => exact fun _ _ _ h => h
  case tky1 => exact Or.inl ⟨by rfl, by intro wSw hSw; (try dsimp only at hSw); go_simp; try with_reducible rfl⟩
  try simp only [Act.put, List.setIfInBounds_toArray, List.set_cons_zero, List.set_cons_succ]
  refine wpAnyH_take (i := 1) (oi := ?tko2) (v := ?tkv2) ?tkh2 (by kernel_rfl) (by kernel_rfl) (by kernel_rfl) ?tkq2 ?tky2 hHeld ?tkr2
  case tkh2 => (simp only [List.getElem?_toArray, List.getElem?_cons_succ, List.getElem?_cons_zero]; rfl)
  case tkq2 => exact fun _ _ _ h => h
  case tky2 => exact Or.inl ⟨by rfl, by intro wSw hSw; (try dsimp only at hSw); go_simp; try with_reducible rfl⟩
  try simp only [Act.put, List.setIfInBounds_toArray, List.set_cons_zero, List.set_cons_succ]
  refine wpAnyH_take (i := 2) (oi := ?tko3) (v := ?tkv3) ?tkh3 (by kernel_rfl) (by kernel_rfl) (by kernel_rfl) ?tkq3 ?tky3 hHeld ?tkr3
  case tkh3 => (simp only [List.getElem?_toArray, List.getElem?_cons_succ, List.getElem?_cons_zero]; rfl)
  case tkq3 => exact fun _ _ _ h => h
  case tky3 => exact Or.inl ⟨by rfl, by intro wSw hSw; (try dsimp only at hSw); go_simp; try with_reducible rfl⟩
  try simp only [Act.put, List.setIfInBounds_toArray, List.set_cons_zero, List.set_cons_succ]
  refine wpAnyH_take (i := 3) (oi := ?tko4) (v := ?tkv4) ?tkh4 (by kernel_rfl) (by kernel_rfl) (by kernel_rfl) ?tkq4 ?tky4 hHeld ?tkr4
  case tkh4 => (simp only [List.getElem?_toArray, List.getElem?_cons_succ, List.getElem?_cons_zero]; rfl)
  case tkq4 => exact fun _ _ _ h => h
  case tky4 => exact Or.inl ⟨by rfl, by intro wSw hSw; (try dsimp only at hSw); go_simp; try with_reducible rfl⟩
  try simp only [Act.put, List.setIfInBounds_toArray, List.set_cons_zero, List.set_cons_succ]
  refine wpAnyH_take (i := 4) (oi := ?tko5) (v := ?tkv5) ?tkh5 (by kernel_rfl) (by kernel_rfl) (by kernel_rfl) ?tkq5 ?tky5 hHeld ?tkr5
  case tkh5 => (simp only [List.getElem?_toArray, List.getElem?_cons_succ, List.getElem?_cons_zero]; rfl)
  case tkq5 => exact fun _ _ _ h => h
  case tky5 => exact Or.inl ⟨by rfl, by intro wSw hSw; (try dsimp only at hSw); go_simp; try with_reducible rfl⟩
  try simp only [Act.put, List.setIfInBounds_toArray, List.set_cons_zero, List.set_cons_succ]
  refine wpAnyH_take (i := 5) (oi := ?tko6) (v := ?tkv6) ?tkh6 (by kernel_rfl) (by kernel_rfl) (by kernel_rfl) ?tkq6 ?tky6 hHeld ?tkr6
  case tkh6 => (simp only [List.getElem?_toArray, List.getElem?_cons_succ, List.getElem?_cons_zero]; rfl)
  case tkq6 => exact fun _ _ _ h => h
  case tky6 => exact Or.inl ⟨by rfl, by intro wSw hSw; (try dsimp only at hSw); go_simp; try with_reducible rfl⟩
  try simp only [Act.put, List.setIfInBounds_toArray, List.set_cons_zero, List.set_cons_succ]
  refine wpAnyH_take (i := 6) (oi := ?tko7) (v := ?tkv7) ?tkh7 (by kernel_rfl) (by kernel_rfl) (by kernel_rfl) ?tkq7 ?tky7 hHeld ?tkr7
  case tkh7 => (simp only [List.getElem?_toArray, List.getElem?_cons_succ, List.getElem?_cons_zero]; rfl)
  case tkq7 => exact fun _ _ _ h => h
  case tky7 => exact Or.inl ⟨by rfl, by intro wSw hSw; (try dsimp only at hSw); go_simp; try with_reducible rfl⟩
  try simp only [Act.put, List.setIfInBounds_toArray, List.set_cons_zero, List.set_cons_succ]
  refine wpAnyH_take (i := 7) (oi := ?tko8) (v := ?tkv8) ?tkh8 (by kernel_rfl) (by kernel_rfl) (by kernel_rfl) ?tkq8 ?tky8 hHeld ?tkr8
  case tkh8 => (simp only [List.getElem?_toArray, List.getElem?_cons_succ, List.getElem?_cons_zero]; rfl)
  case tkq8 => exact fun _ _ _ h => h
  case tky8 => exact Or.inl ⟨by rfl, by intro wSw hSw; (try dsimp only at hSw); go_simp; try with_reducible rfl⟩
  try simp only [Act.put, List.setIfInBounds_toArray, List.set_cons_zero, List.set_cons_succ]
  refine wpAnyH_take (i := 8) (oi := ?tko9) (v := ?tkv9) ?tkh9 (by kernel_rfl) (by kernel_rfl) (by kernel_rfl) ?tkq9 ?tky9 hHeld ?tkr9
  case tkh9 => (simp only [List.getElem?_toArray, List.getElem?_cons_succ, List.getElem?_cons_zero]; rfl)
  case tkq9 => exact fun _ _ _ h => h
  case tky9 => exact Or.inl ⟨by rfl, by intro wSw hSw; (try dsimp only at hSw); go_simp; try with_reducible rfl⟩
  try simp only [Act.put, List.setIfInBounds_toArray, List.set_cons_zero, List.set_cons_succ]
  refine wpAnyH_take (i := 9) (oi := ?tko10) (v := ?tkv10) ?tkh10 (by kernel_rfl) (by kernel_rfl) (by kernel_rfl) ?tkq10 ?tky10 hHeld ?tkr10
  case tkh10 => (simp only [List.getElem?_toArray, List.getElem?_cons_succ, List.getElem?_cons_zero]; rfl)
  case tkq10 => exact fun _ _ _ h => h
  case tky10 => exact Or.inl ⟨by rfl, by intro wSw hSw; (try dsimp only at hSw); go_simp; try with_reducible rfl⟩
  try simp only [Act.put, List.setIfInBounds_toArray, List.set_cons_zero, List.set_cons_succ]
  refine wpAnyH_take (i := 10) (oi := ?tko11) (v := ?tkv11) ?tkh11 (by kernel_rfl) (by kernel_rfl) (by kernel_rfl) ?tkq11 ?tky11 hHeld ?tkr11
  case tkh11 => (simp only [List.getElem?_toArray, List.getElem?_cons_succ, List.getElem?_cons_zero]; rfl)
  case tkq11 => exact fun _ _ _ h => h
  case tky11 => exact Or.inl ⟨by rfl, by intro wSw hSw; (try dsimp only at hSw); go_simp; try with_reducible rfl⟩
  try simp only [Act.put, List.setIfInBounds_toArray, List.set_cons_zero, List.set_cons_succ]
  have HSW := Lib.hid (show ∀ W : World, Blk W g [.pointer (some ⟨q, 0, none⟩), .slice NA nn nc, u2, u3, u4, u5, u6] → Blk W w.heap.size [.int .i64 x.id, .int .i64 x.at_, .int .i64 x.ix, .int .u64 x.tm, .int .i64 x.ids] → W.cell? ⟨g, 0, none⟩ = some (.pointer (some ⟨q, 0, none⟩)) ∧ W.cell? ⟨g, 1, none⟩ = some (.slice NA nn nc) ∧ W.cell? ⟨w.heap.size, 1, none⟩ = some (.int .i64 x.at_) from
    fun W h1 h2 => ⟨h1.cell 0 rfl, h1.cell 1 rfl, h2.cell 1 rfl⟩)
  refine wpAnyH_ready (rs := [11, 16]) (by kernel_rfl) (by simp) ?_
  refine AllReadyH.cons (o := ?oa) ?ha (fun K1 hK1 => ?_) (AllReadyH.cons (o := ?ob) ?hb (fun K2 hK2 => ?_) AllReadyH.nil)
  case ha => (simp only [List.getElem?_toArray, List.getElem?_cons_succ, List.getElem?_cons_zero]; rfl)
  case hb => (simp only [List.getElem?_toArray, List.getElem?_cons_succ, List.getElem?_cons_zero]; rfl)
  · go_simp
    (go_at_call 96; refine (HSTEP.out V (Below.refl _ _)).mono ?_; rintro e w4 ⟨K, c, N', rfl, hev, hsr, hN', hgr, hfar⟩)
    have HB4 := Lib.hid (HBV.out.grown hgr (fun e => hgq (by injection e)))
    have HX4 := Lib.hid (HXV.out.grown hgr (fun e => by injection e with e; omega))
    have HE4 := Lib.hid (HEV.out.grown hgr (fun e => by injection e with e; have := HZ.out; omega))
    have HH4 := Lib.hid (HHV.out.grown hgr (fun e => by injection e with e; have := HZ.out; omega))
    have FN := Lib.hid hN'.2
    refine hK1.out _ _ (HSW.out _ HB4.out HX4.out) (fun hHt => ?_)
    clear hK1 K1 hHeld
    have hHeld := hHt
    clear hHt
    try simp only [Act.put, List.setIfInBounds_toArray, List.set_cons_zero, List.set_cons_succ]
    refine wpAnyH_take (i := 12) (oi := ?tko12) (v := ?tkv12) ?tkh12 (by kernel_rfl) (by kernel_rfl) (by kernel_rfl) ?tkq12 ?tky12 hHeld ?tkr12
    case tkh12 => (simp only [List.getElem?_toArray, List.getElem?_cons_succ, List.getElem?_cons_zero]; rfl)
    case tkq12 => exact fun _ _ _ h => h
    case tky12 => exact Or.inl ⟨by rfl, by intro wSw hSw; (try dsimp only at hSw); go_simp; try with_reducible rfl⟩
    try simp only [Act.put, List.setIfInBounds_toArray, List.set_cons_zero, List.set_cons_succ]
    refine wpAnyH_take (i := 13) (oi := ?tko13) (v := ?tkv13) ?tkh13 (by kernel_rfl) (by kernel_rfl) (by kernel_rfl) ?tkq13 ?tky13 hHeld ?tkr13
    case tkh13 => (simp only [List.getElem?_toArray, List.getElem?_cons_succ, List.getElem?_cons_zero]; rfl)
    case tkq13 => exact fun _ _ _ h => h
    case tky13 => exact Or.inl ⟨by rfl, by intro wSw hSw; (try dsimp only at hSw); go_simp; try with_reducible rfl⟩
    try simp only [Act.put, List.setIfInBounds_toArray, List.set_cons_zero, List.set_cons_succ]
    refine wpAnyH_take (i := 14) (oi := ?tko14) (v := ?tkv14) ?tkh14 (by kernel_rfl) (by kernel_rfl) (by kernel_rfl) ?tkq14 ?tky14 hHeld ?tkr14
    case tkh14 => (simp only [List.getElem?_toArray, List.getElem?_cons_succ, List.getElem?_cons_zero]; rfl)
    case tkq14 => exact fun _ _ _ h => h
    case tky14 => exact Or.inl ⟨by rfl, by intro wSw hSw; (try dsimp only at hSw); go_simp; try with_reducible rfl⟩
    try simp only [Act.put, List.setIfInBounds_toArray, List.set_cons_zero, List.set_cons_succ]
    refine wpAnyH_take (i := 15) (oi := ?tko15) (v := ?tkv15) ?tkh15 (by kernel_rfl) (by kernel_rfl) (by kernel_rfl) ?tkq15 ?tky15 hHeld ?tkr15
    case tkh15 => (simp only [List.getElem?_toArray, List.getElem?_cons_succ, List.getElem?_cons_zero]; rfl)
    case tkq15 => exact fun _ _ _ h => h
    case tky15 => exact Or.inl ⟨by rfl, by intro wSw hSw; (try dsimp only at hSw); go_simp; try with_reducible rfl⟩
    try simp only [Act.put, List.setIfInBounds_toArray, List.set_cons_zero, List.set_cons_succ]
    refine wpAnyH_ready (rs := [16]) (by kernel_rfl) (by simp) ?_
    refine AllReadyH.cons (o := ?tko16) ?tkh16 (fun Kt16 hKt16 => ?_) AllReadyH.nil
    case tkh16 => (simp only [List.getElem?_toArray, List.getElem?_cons_succ, List.getElem?_cons_zero]; rfl)
    go_simp
    (skip)
    refine hKt16.out _ _ ?_ (fun hHt16 => ?_)
    · (exact HSW.out _ (HB4.out.alloc _) (HX4.out.alloc _))
    clear hKt16 Kt16 hHeld
    have hHeld := hHt16
    clear hHt16
    try simp only [Act.put, List.setIfInBounds_toArray, List.set_cons_zero, List.set_cons_succ]
    refine wpAnyH_ready (rs := [17]) (by kernel_rfl) (by simp) ?_
    refine AllReadyH.cons (o := ?tko17) ?tkh17 (fun Kt17 hKt17 => ?_) AllReadyH.nil
    case tkh17 => (simp only [List.getElem?_toArray, List.getElem?_cons_succ, List.getElem?_cons_zero]; rfl)
    go_simp
    (skip)
    refine hKt17.out _ _ ?_ (fun hHt17 => ?_)
    · (exact HSW.out _ (HB4.out.alloc _) (HX4.out.alloc _))
    clear hKt17 Kt17 hHeld
    have hHeld := hHt17
    clear hHt17
    try simp only [Act.put, List.setIfInBounds_toArray, List.set_cons_zero, List.set_cons_succ]
    refine wpAnyH_take (i := 18) (oi := ?tko18) (v := ?tkv18) ?tkh18 (by kernel_rfl) (by kernel_rfl) (by kernel_rfl) ?tkq18 ?tky18 hHeld ?tkr18
    case tkh18 => (simp only [List.getElem?_toArray, List.getElem?_cons_succ, List.getElem?_cons_zero]; rfl)
    case tkq18 => exact fun _ _ _ h => h
    case tky18 => exact Or.inl ⟨by rfl, by intro wSw hSw; (try dsimp only at hSw); go_simp; try with_reducible rfl⟩
    try simp only [Act.put, List.setIfInBounds_toArray, List.set_cons_zero, List.set_cons_succ]
    refine wpAnyH_take (i := 19) (oi := ?tko19) (v := ?tkv19) ?tkh19 (by kernel_rfl) (by kernel_rfl) (by kernel_rfl) ?tkq19 ?tky19 hHeld ?tkr19
    case tkh19 => (simp only [List.getElem?_toArray, List.getElem?_cons_succ, List.getElem?_cons_zero]; rfl)
    case tkq19 => exact fun _ _ _ h => h
    case tky19 => exact Or.inl ⟨by rfl, by intro wSw hSw; (try dsimp only at hSw); go_simp; try with_reducible rfl⟩
    try simp only [Act.put, List.setIfInBounds_toArray, List.set_cons_zero, List.set_cons_succ]
    refine wpAnyH_done (by kernel_rfl) ?_ _
    have hsz4 := hgr.size
    have hal4 : Below w4.heap.size w4 (w4.alloc (.cells #[.int .u64 X.time, .slice K X.ids.length c] 38)) := (Below.refl _ _).alloc (Nat.le_refl _) _
    have FB := Blk.new w4 #[.int .u64 X.time, .slice K X.ids.length c] 38 [.int .u64 X.time, .slice K X.ids.length c] rfl
    have FX := HX4.out.alloc (.cells #[.int .u64 X.time, .slice K X.ids.length c] 38)
    have FE := HE4.out.alloc (.cells #[.int .u64 X.time, .slice K X.ids.length c] 38)
    have FH := HH4.out.alloc (.cells #[.int .u64 X.time, .slice K X.ids.length c] 38)
    have FS := Lib.hid (hsr.below hal4)
    have FG := Lib.hid (grown_trans (grown_trans HGV.out hgr) (grown_below hal4 (some q)))
    have FV := Lib.hid (hev.below hal4)
    have FK := Lib.hid (show (∀ a, K = some a → w.heap.size ≤ a.block) ∧ (∀ a, K = some a → 0 < X.ids.length → a.block ≠ w4.heap.size) ∧ (∀ a, K = some a → T2.heap.size < a.block) from
      ⟨fun a e => by have := hfar a e; have := HZ.out; omega, fun a e h0 => by have := rd_lt hev.2.1 a e h0; omega, fun a e => by have := hfar a e; have := HZ.out; omega⟩)
    have FGE := Lib.hid (show w.heap.size + 3 ≤ w4.heap.size by have := HZ.out; omega)
    clear hHeld HB4 HX4 HE4 HH4 hN' hev hsr hgr hfar hal4 hsz4 HSTEP HSW HBV HXV HEV HHV HGV
    generalize w4.alloc (.cells #[.int .u64 X.time, .slice K X.ids.length c] 38) = W5 at FB FX FE FH FS FG FV ⊢
    generalize w4.heap.size = GE at FB FK FGE ⊢
    have e0 := FB.cell 0 rfl
    have e1 := FB.cell 1 rfl
    have y0 := FX.cell 0 rfl
    have y2 := FX.cell 2 rfl
    have y3 := FX.cell 3 rfl
    have t0 := FE.cell 0 rfl
    have t1 := FE.cell 1 rfl
    have tf0 := FE.fz 0 rfl
    have tf1 := FE.fz 1 rfl
    have v0 := FH.cell 0 rfl
    have v1 := FH.cell 1 rfl
    have v2 := FH.cell 2 rfl
    have v3 := FH.cell 3 rfl
    have v4 := FH.cell 4 rfl
    have vf0 := FH.fz 0 rfl
    have vf1 := FH.fz 1 rfl
    have vf2 := FH.fz 2 rfl
    have vf3 := FH.fz 3 rfl
    have vf4 := FH.fz 4 rfl
    have hne : T1.heap.size ≠ T2.heap.size := by have := HZ.out; omega
    have hq1 : T1.heap.size ≠ q := by have := HZ.out; omega
    have hq2 : T2.heap.size ≠ q := by have := HZ.out; omega
    have hs1 : ¬ S T1.heap.size := fun h => by have := HSS.out _ h; have := HZ.out; omega
    have hs2 : ¬ S T2.heap.size := fun h => by have := HSS.out _ h; have := HZ.out; omega
    have hw1 : w.heap.size ≤ T1.heap.size := by have := HZ.out; omega
    have hw2 : w.heap.size ≤ T2.heap.size := by have := HZ.out; omega
    have hge1 : GE ≠ T1.heap.size := by have := HZ.out; have := FGE.out; omega
    have hge2 : GE ≠ T2.heap.size := by have := HZ.out; have := FGE.out; omega
    have hge3 : GE ≠ w.heap.size := by have := FGE.out; omega
    have hwt1 : w.heap.size ≠ T1.heap.size := by have := HZ.out; omega
    have hwt2 : w.heap.size ≠ T2.heap.size := by have := HZ.out; omega
    by_cases h0 : er = 0
    rotate_left
    · have hr : rE = er := by rw [← HRE.out, if_pos h0]
      have h0' : ((er : Int) == 0) = false := by simp; omega
      have HC := Lib.hid (put7_cells FE FH hne (.int .u64 0) (.slice none 0 0) (.int .i64 0) (.int .i64 0) (.int .i64 0) (.int .u64 0) (.int .i64 0))
      have HEND := Lib.hid (HGOT.out (.returned (.tuple #[.agg #[.int .u64 0, .slice none 0 0], .agg #[.int .i64 0, .int .i64 0, .int .i64 0, .int .u64 0, .int .i64 0], .int .i64 (er : Nat)])) _ ⟨N', put7_src FS.out ⟨hq1, hs1⟩ ⟨hq2, hs2⟩ (.int .u64 0) (.slice none 0 0) (.int .i64 0) (.int .i64 0) (.int .i64 0) (.int .u64 0) (.int .i64 0), FN.out, put7_grown FG.out hw1 hw2 (.int .u64 0) (.slice none 0 0) (.int .i64 0) (.int .i64 0) (.int .i64 0) (.int .u64 0) (.int .i64 0), .inl ⟨by omega, by rw [hr]⟩⟩)
      clear FB FX FE FH FS FG FV FK FN hq1 hq2 hs1 hs2 hw1 hw2 hr HRE HGOT HNE HSS HZ FGE q63 hN hM hx1 hx2 hql hgl hgq
      go_wp2_with fail
      have c0 := HC.out.1.cell 0 rfl
      have c1 := HC.out.1.cell 1 rfl
      have d0 := HC.out.2.cell 0 rfl
      have d1 := HC.out.2.cell 1 rfl
      have d2 := HC.out.2.cell 2 rfl
      have d3 := HC.out.2.cell 3 rfl
      have d4 := HC.out.2.cell 4 rfl
      refine bodyPost_ret (v := .tuple #[.agg #[.int .u64 0, .slice none 0 0], .agg #[.int .i64 0, .int .i64 0, .int .i64 0, .int .u64 0, .int .i64 0], .int .i64 (er : Nat)]) (by simp [results, Tryz.results77, go_sem, c0, c1, d0, d1, d2, d3, d4]) rfl ?_
      exact HEND.out
    subst h0
    by_cases hlt : X.time < x.tm
    · have hr : rE = 8 := by rw [← HRE.out, if_neg (fun e => e rfl), if_pos hlt]
      have HC := Lib.hid (put7_cells FE FH hne (.int .u64 0) (.slice none 0 0) (.int .i64 0) (.int .i64 0) (.int .i64 0) (.int .u64 0) (.int .i64 0))
      have HEND := Lib.hid (HGOT.out (.returned (.tuple #[.agg #[.int .u64 0, .slice none 0 0], .agg #[.int .i64 0, .int .i64 0, .int .i64 0, .int .u64 0, .int .i64 0], .int .i64 (8 : Nat)])) _ ⟨N', put7_src FS.out ⟨hq1, hs1⟩ ⟨hq2, hs2⟩ (.int .u64 0) (.slice none 0 0) (.int .i64 0) (.int .i64 0) (.int .i64 0) (.int .u64 0) (.int .i64 0), FN.out, put7_grown FG.out hw1 hw2 (.int .u64 0) (.slice none 0 0) (.int .i64 0) (.int .i64 0) (.int .i64 0) (.int .u64 0) (.int .i64 0), .inl ⟨by omega, by rw [hr]⟩⟩)
      clear FB FX FE FH FS FG FV FK FN hq1 hq2 hs1 hs2 hw1 hw2 hr HRE HGOT HNE HSS HZ FGE q63 hN hM hx1 hx2 hql hgl hgq
      go_wp2_with fail
      have c0 := HC.out.1.cell 0 rfl
      have c1 := HC.out.1.cell 1 rfl
      have d0 := HC.out.2.cell 0 rfl
      have d1 := HC.out.2.cell 1 rfl
      have d2 := HC.out.2.cell 2 rfl
      have d3 := HC.out.2.cell 3 rfl
      have d4 := HC.out.2.cell 4 rfl
      refine bodyPost_ret (v := .tuple #[.agg #[.int .u64 0, .slice none 0 0], .agg #[.int .i64 0, .int .i64 0, .int .i64 0, .int .u64 0, .int .i64 0], .int .i64 (8 : Nat)]) (by simp [results, Tryz.results77, go_sem, c0, c1, d0, d1, d2, d3, d4]) rfl ?_
      exact HEND.out
    · have hr : rE = 0 := by rw [← HRE.out, if_neg (fun e => e rfl), if_neg hlt]
      have HC := Lib.hid (put7_cells FE FH hne (.int .u64 X.time) (.slice K X.ids.length c) (.int .i64 x.id) (.int .i64 (nx : Nat)) (.int .i64 (x.ix + 1)) (.int .u64 X.time) (.int .i64 (X.ids.length : Nat)))
      have HEND := Lib.hid (HGOT.out (.returned (.tuple #[.agg #[.int .u64 X.time, .slice K X.ids.length c], .agg #[.int .i64 x.id, .int .i64 (nx : Nat), .int .i64 (x.ix + 1), .int .u64 X.time, .int .i64 (X.ids.length : Nat)], .int .i64 0])) _ ⟨N', put7_src FS.out ⟨hq1, hs1⟩ ⟨hq2, hs2⟩ (.int .u64 X.time) (.slice K X.ids.length c) (.int .i64 x.id) (.int .i64 (nx : Nat)) (.int .i64 (x.ix + 1)) (.int .u64 X.time) (.int .i64 (X.ids.length : Nat)), FN.out, put7_grown FG.out hw1 hw2 (.int .u64 X.time) (.slice K X.ids.length c) (.int .i64 x.id) (.int .i64 (nx : Nat)) (.int .i64 (x.ix + 1)) (.int .u64 X.time) (.int .i64 (X.ids.length : Nat)), .inr ⟨hr, K, c, rfl, put7_ev FV.out (fun a e _ => by have := FK.out.2.2 a e; have := HZ.out; omega) (fun a e _ => by have := FK.out.2.2 a e; omega) (.int .u64 X.time) (.slice K X.ids.length c) (.int .i64 x.id) (.int .i64 (nx : Nat)) (.int .i64 (x.ix + 1)) (.int .u64 X.time) (.int .i64 (X.ids.length : Nat)), FK.out.1⟩⟩)
      have HFB := Lib.hid FB
      have HFX := Lib.hid FX
      clear FB FX FE FH FS FG FV FK FN hq1 hq2 hs1 hs2 hw1 hw2 hr HRE HGOT HNE HSS HZ FGE q63 hN hM hx1 hx2 hql hgl hgq
      go_wp2_with fail
      have HSX := Lib.hid (show ∀ W : World, Blk W GE [.int .u64 X.time, .slice K X.ids.length c] → Blk W w.heap.size [.int .i64 x.id, .int .i64 x.at_, .int .i64 x.ix, .int .u64 x.tm, .int .i64 x.ids] → W.cell? ⟨GE, 0, none⟩ = some (.int .u64 X.time) ∧ W.cell? ⟨GE, 1, none⟩ = some (.slice K X.ids.length c) ∧ W.cell? ⟨w.heap.size, 0, none⟩ = some (.int .i64 x.id) ∧ W.cell? ⟨w.heap.size, 2, none⟩ = some (.int .i64 x.ix) from
        fun W h1 h2 => ⟨h1.cell 0 rfl, h1.cell 1 rfl, h2.cell 0 rfl, h2.cell 2 rfl⟩)
      have hwr : IntKind.i64.wrap (x.ix + 1) = x.ix + 1 := by rw [IntKind.wrap_i64]; omega
      refine wp_region_held_drew (S := fun W => W.cell? ⟨GE, 0, none⟩ = some (.int .u64 X.time) ∧ W.cell? ⟨GE, 1, none⟩ = some (.slice K X.ids.length c) ∧ W.cell? ⟨w.heap.size, 0, none⟩ = some (.int .i64 x.id) ∧ W.cell? ⟨w.heap.size, 2, none⟩ = some (.int .i64 x.ix)) (by kernel_rfl) (HSX.out _ HFB.out.drew HFX.out.drew) (fun hHeld => ?_)
      refine wpAnyH_take (i := 0) (oi := ?tko20) (v := ?tkv20) ?tkh20 (by kernel_rfl) (by kernel_rfl) (by kernel_rfl) ?tkq20 ?tky20 hHeld ?tkr20
      case tkh20 => (simp only [List.getElem?_toArray, List.getElem?_cons_zero]; rfl)
      case tkq20 => exact fun _ _ _ h => h
      case tky20 => exact Or.inl ⟨by rfl, by intro wSw hSw; (try dsimp only at hSw); go_simp; try with_reducible rfl⟩
      try simp only [Act.put, List.setIfInBounds_toArray, List.set_cons_zero, List.set_cons_succ]
      refine wpAnyH_take (i := 1) (oi := ?tko21) (v := ?tkv21) ?tkh21 (by kernel_rfl) (by kernel_rfl) (by kernel_rfl) ?tkq21 ?tky21 hHeld ?tkr21
      case tkh21 => (simp only [List.getElem?_toArray, List.getElem?_cons_succ, List.getElem?_cons_zero]; rfl)
      case tkq21 => exact fun _ _ _ h => h
      case tky21 => exact Or.inl ⟨by rfl, by intro wSw hSw; (try dsimp only at hSw); go_simp; try with_reducible rfl⟩
      try simp only [Act.put, List.setIfInBounds_toArray, List.set_cons_zero, List.set_cons_succ]
      refine wpAnyH_take (i := 2) (oi := ?tko22) (v := ?tkv22) ?tkh22 (by kernel_rfl) (by kernel_rfl) (by kernel_rfl) ?tkq22 ?tky22 hHeld ?tkr22
      case tkh22 => (simp only [List.getElem?_toArray, List.getElem?_cons_succ, List.getElem?_cons_zero]; rfl)
      case tkq22 => exact fun _ _ _ h => h
      case tky22 => exact Or.inl ⟨by rfl, by intro wSw hSw; (try dsimp only at hSw); go_simp; try with_reducible rfl⟩
      try simp only [Act.put, List.setIfInBounds_toArray, List.set_cons_zero, List.set_cons_succ]
      refine wpAnyH_take (i := 3) (oi := ?tko23) (v := ?tkv23) ?tkh23 (by kernel_rfl) (by kernel_rfl) (by kernel_rfl) ?tkq23 ?tky23 hHeld ?tkr23
      case tkh23 => (simp only [List.getElem?_toArray, List.getElem?_cons_succ, List.getElem?_cons_zero]; rfl)
      case tkq23 => exact fun _ _ _ h => h
      case tky23 => exact Or.inl ⟨by rfl, by intro wSw hSw; (try dsimp only at hSw); go_simp; try with_reducible rfl⟩
      try simp only [Act.put, List.setIfInBounds_toArray, List.set_cons_zero, List.set_cons_succ]
      refine wpAnyH_take (i := 4) (oi := ?tko24) (v := ?tkv24) ?tkh24 (by kernel_rfl) (by kernel_rfl) (by kernel_rfl) ?tkq24 ?tky24 hHeld ?tkr24
      case tkh24 => (simp only [List.getElem?_toArray, List.getElem?_cons_succ, List.getElem?_cons_zero]; rfl)
      case tkq24 => exact fun _ _ _ h => h
      case tky24 => exact Or.inl ⟨by rfl, by intro wSw hSw; (try dsimp only at hSw); go_simp; try with_reducible rfl⟩
      try simp only [Act.put, List.setIfInBounds_toArray, List.set_cons_zero, List.set_cons_succ]
      refine wpAnyH_take (i := 5) (oi := ?tko25) (v := ?tkv25) ?tkh25 (by kernel_rfl) (by kernel_rfl) (by kernel_rfl) ?tkq25 ?tky25 hHeld ?tkr25
      case tkh25 => (simp only [List.getElem?_toArray, List.getElem?_cons_succ, List.getElem?_cons_zero]; rfl)
      case tkq25 => exact fun _ _ _ h => h
      case tky25 => exact Or.inl ⟨by rfl, by intro wSw hSw; (try dsimp only at hSw); go_simp; try with_reducible rfl⟩
      try simp only [Act.put, List.setIfInBounds_toArray, List.set_cons_zero, List.set_cons_succ]
      refine wpAnyH_take (i := 6) (oi := ?tko26) (v := ?tkv26) ?tkh26 (by kernel_rfl) (by kernel_rfl) (by kernel_rfl) ?tkq26 ?tky26 hHeld ?tkr26
      case tkh26 => (simp only [List.getElem?_toArray, List.getElem?_cons_succ, List.getElem?_cons_zero]; rfl)
      case tkq26 => exact fun _ _ _ h => h
      case tky26 => exact Or.inl ⟨by rfl, by intro wSw hSw; (try dsimp only at hSw); go_simp; try with_reducible rfl⟩
      try simp only [Act.put, List.setIfInBounds_toArray, List.set_cons_zero, List.set_cons_succ]
      refine wpAnyH_take (i := 7) (oi := ?tko27) (v := ?tkv27) ?tkh27 (by kernel_rfl) (by kernel_rfl) (by kernel_rfl) ?tkq27 ?tky27 hHeld ?tkr27
      case tkh27 => (simp only [List.getElem?_toArray, List.getElem?_cons_succ, List.getElem?_cons_zero]; rfl)
      case tkq27 => exact fun _ _ _ h => h
      case tky27 => exact Or.inl ⟨by rfl, by intro wSw hSw; (try dsimp only at hSw); go_simp; try with_reducible rfl⟩
      try simp only [Act.put, List.setIfInBounds_toArray, List.set_cons_zero, List.set_cons_succ]
      refine wpAnyH_take (i := 8) (oi := ?tko28) (v := ?tkv28) ?tkh28 (by kernel_rfl) (by kernel_rfl) (by kernel_rfl) ?tkq28 ?tky28 hHeld ?tkr28
      case tkh28 => (simp only [List.getElem?_toArray, List.getElem?_cons_succ, List.getElem?_cons_zero]; rfl)
      case tkq28 => exact fun _ _ _ h => h
      case tky28 => exact Or.inl ⟨by rfl, by intro wSw hSw; (try dsimp only at hSw); go_simp; try with_reducible rfl⟩
      try simp only [Act.put, List.setIfInBounds_toArray, List.set_cons_zero, List.set_cons_succ]
      refine wpAnyH_take (i := 9) (oi := ?tko29) (v := ?tkv29) ?tkh29 (by kernel_rfl) (by kernel_rfl) (by kernel_rfl) ?tkq29 ?tky29 hHeld ?tkr29
      case tkh29 => (simp only [List.getElem?_toArray, List.getElem?_cons_succ, List.getElem?_cons_zero]; rfl)
      case tkq29 => exact fun _ _ _ h => h
      case tky29 => exact Or.inl ⟨by rfl, by intro wSw hSw; (try dsimp only at hSw); go_simp; try with_reducible rfl⟩
      try simp only [Act.put, List.setIfInBounds_toArray, List.set_cons_zero, List.set_cons_succ]
      refine wpAnyH_take (i := 10) (oi := ?tko30) (v := ?tkv30) ?tkh30 (by kernel_rfl) (by kernel_rfl) (by kernel_rfl) ?tkq30 ?tky30 hHeld ?tkr30
      case tkh30 => (simp only [List.getElem?_toArray, List.getElem?_cons_succ, List.getElem?_cons_zero]; rfl)
      case tkq30 => exact fun _ _ _ h => h
      case tky30 => exact Or.inl ⟨by rfl, by intro wSw hSw; (try dsimp only at hSw); go_simp; try with_reducible rfl⟩
      try simp only [Act.put, List.setIfInBounds_toArray, List.set_cons_zero, List.set_cons_succ]
      refine wpAnyH_take (i := 11) (oi := ?tko31) (v := ?tkv31) ?tkh31 (by kernel_rfl) (by kernel_rfl) (by kernel_rfl) ?tkq31 ?tky31 hHeld ?tkr31
      case tkh31 => (simp only [List.getElem?_toArray, List.getElem?_cons_succ, List.getElem?_cons_zero]; rfl)
      case tkq31 => exact fun _ _ _ h => h
      case tky31 => exact Or.inl ⟨by rfl, by intro wSw hSw; (try dsimp only at hSw); go_simp; try with_reducible rfl⟩
      try simp only [Act.put, List.setIfInBounds_toArray, List.set_cons_zero, List.set_cons_succ]
      refine wpAnyH_take (i := 12) (oi := ?tko32) (v := ?tkv32) ?tkh32 (by kernel_rfl) (by kernel_rfl) (by kernel_rfl) ?tkq32 ?tky32 hHeld ?tkr32
      case tkh32 => (simp only [List.getElem?_toArray, List.getElem?_cons_succ, List.getElem?_cons_zero]; rfl)
      case tkq32 => exact fun _ _ _ h => h
      case tky32 => exact Or.inl ⟨by rfl, by intro wSw hSw; (try dsimp only at hSw); go_simp; try with_reducible rfl⟩
      try simp only [Act.put, List.setIfInBounds_toArray, List.set_cons_zero, List.set_cons_succ]
      refine wpAnyH_ready (rs := [13]) (by kernel_rfl) (by simp) ?_
      refine AllReadyH.cons (o := ?tko33) ?tkh33 (fun Kt33 hKt33 => ?_) AllReadyH.nil
      case tkh33 => (simp only [List.getElem?_toArray, List.getElem?_cons_succ, List.getElem?_cons_zero]; rfl)
      go_simp
      (skip)
      refine hKt33.out _ _ ?_ (fun hHt33 => ?_)
      · (exact HSX.out _ ((HFB.out.drew.other _ _ hge1).other _ _ hge1) ((HFX.out.drew.other _ _ hwt1).other _ _ hwt1))
      clear hKt33 Kt33 hHeld
      have hHeld := hHt33
      clear hHt33
      try simp only [Act.put, List.setIfInBounds_toArray, List.set_cons_zero, List.set_cons_succ]
      refine wpAnyH_ready (rs := [14]) (by kernel_rfl) (by simp) ?_
      refine AllReadyH.cons (o := ?tko34) ?tkh34 (fun Kt34 hKt34 => ?_) AllReadyH.nil
      case tkh34 => (simp only [List.getElem?_toArray, List.getElem?_cons_succ, List.getElem?_cons_zero]; rfl)
      go_simp
      (skip)
      refine hKt34.out _ _ ?_ (fun hHt34 => ?_)
      · (exact HSX.out _ (put7_off HFB.out hge1 hge2 (.int .u64 X.time) (.slice K X.ids.length c) (.int .i64 x.id) (.int .i64 (nx : Nat)) (.int .i64 (x.ix + 1)) (.int .u64 X.time) (.int .i64 (X.ids.length : Nat))).drew (put7_off HFX.out hwt1 hwt2 (.int .u64 X.time) (.slice K X.ids.length c) (.int .i64 x.id) (.int .i64 (nx : Nat)) (.int .i64 (x.ix + 1)) (.int .u64 X.time) (.int .i64 (X.ids.length : Nat))).drew)
      clear hKt34 Kt34 hHeld
      have hHeld := hHt34
      clear hHt34
      try simp only [Act.put, List.setIfInBounds_toArray, List.set_cons_zero, List.set_cons_succ]
      refine wpAnyH_take (i := 15) (oi := ?tko35) (v := ?tkv35) ?tkh35 (by kernel_rfl) (by kernel_rfl) (by kernel_rfl) ?tkq35 ?tky35 hHeld ?tkr35
      case tkh35 => (simp only [List.getElem?_toArray, List.getElem?_cons_succ, List.getElem?_cons_zero]; rfl)
      case tkq35 => exact fun _ _ _ h => h
      case tky35 => exact Or.inl ⟨by rfl, by intro wSw hSw; (try dsimp only at hSw); go_simp; try with_reducible rfl⟩
      try simp only [Act.put, List.setIfInBounds_toArray, List.set_cons_zero, List.set_cons_succ]
      refine wpAnyH_done (by kernel_rfl) ?_ _
      clear hHeld
      go_wp2_with fail
      have c0 := HC.out.1.drew.cell 0 rfl
      have c1 := HC.out.1.drew.cell 1 rfl
      have d0 := HC.out.2.drew.cell 0 rfl
      have d1 := HC.out.2.drew.cell 1 rfl
      have d2 := HC.out.2.drew.cell 2 rfl
      have d3 := HC.out.2.drew.cell 3 rfl
      have d4 := HC.out.2.drew.cell 4 rfl
      refine bodyPost_ret (v := .tuple #[.agg #[.int .u64 X.time, .slice K X.ids.length c], .agg #[.int .i64 x.id, .int .i64 (nx : Nat), .int .i64 (x.ix + 1), .int .u64 X.time, .int .i64 (X.ids.length : Nat)], .int .i64 0]) (by simp [results, Tryz.results77, go_sem, c0, c1, d0, d1, d2, d3, d4]) rfl ?_
      exact got_drew HEND.out
  · go_simp
    have hal5 : Below V.heap.size V (V.alloc (.cells #[.int .u64 0, .slice none 0 0] 38)) := (Below.refl _ _).alloc (Nat.le_refl _) _
    have HEB := Lib.hid (Blk.new V #[.int .u64 0, .slice none 0 0] 38 [.int .u64 0, .slice none 0 0] rfl)
    have HB4 := Lib.hid (HBV.out.later hal5)
    have HX4 := Lib.hid (HXV.out.later hal5)
    have HE4 := Lib.hid (HEV.out.later hal5)
    have HH4 := Lib.hid (HHV.out.later hal5)
    have HG4 := Lib.hid (grown_trans HGV.out (grown_below hal5 (some q)))
    have HZ4 := Lib.hid (show (V.alloc (.cells #[.int .u64 0, .slice none 0 0] 38)).heap.size = V.heap.size + 1 by simp)
    have HC4 := Lib.hid (HSTEP.out _ hal5)
    refine hK2.out _ _ (HSW.out _ HB4.out HX4.out) (fun hHt => ?_)
    clear hK2 K2 hHeld
    have hHeld := hHt
    clear hHt hal5
    try simp only [Act.put, List.setIfInBounds_toArray, List.set_cons_zero, List.set_cons_succ]
    generalize V.alloc (.cells #[.int .u64 0, .slice none 0 0] 38) = V5 at hHeld HEB HB4 HX4 HE4 HH4 HG4 HZ4 HC4 ⊢
    refine wpAnyH_ready (rs := [11]) (by kernel_rfl) (by simp) ?_
    refine AllReadyH.cons (o := ?oc) ?hc (fun K1 hK1 => ?_) AllReadyH.nil
    case hc => (simp only [List.getElem?_toArray, List.getElem?_cons_succ, List.getElem?_cons_zero]; rfl)
    go_simp
    (go_at_call 96; refine HC4.out.mono ?_; rintro e w4 ⟨K, c, N', rfl, hev, hsr, hN', hgr, hfar⟩)
    have HB5 := Lib.hid (HB4.out.grown hgr (fun e => hgq (by injection e)))
    have HX5 := Lib.hid (HX4.out.grown hgr (fun e => by injection e with e; omega))
    have HE5 := Lib.hid (HE4.out.grown hgr (fun e => by injection e with e; have := HZ.out; omega))
    have HH5 := Lib.hid (HH4.out.grown hgr (fun e => by injection e with e; have := HZ.out; omega))
    have hEB5 := HEB.out.grown hgr (fun e => by injection e with e; have := HZ.out; omega)
    have FN := Lib.hid hN'.2
    refine hK1.out _ _ (HSW.out _ HB5.out HX5.out) (fun hHt => ?_)
    clear hK1 K1 hHeld
    have hHeld := hHt
    clear hHt
    try simp only [Act.put, List.setIfInBounds_toArray, List.set_cons_zero, List.set_cons_succ]
    refine wpAnyH_take (i := 12) (oi := ?tko36) (v := ?tkv36) ?tkh36 (by kernel_rfl) (by kernel_rfl) (by kernel_rfl) ?tkq36 ?tky36 hHeld ?tkr36
    case tkh36 => (simp only [List.getElem?_toArray, List.getElem?_cons_succ, List.getElem?_cons_zero]; rfl)
    case tkq36 => exact fun _ _ _ h => h
    case tky36 => exact Or.inl ⟨by rfl, by intro wSw hSw; (try dsimp only at hSw); go_simp; try with_reducible rfl⟩
    try simp only [Act.put, List.setIfInBounds_toArray, List.set_cons_zero, List.set_cons_succ]
    refine wpAnyH_take (i := 13) (oi := ?tko37) (v := ?tkv37) ?tkh37 (by kernel_rfl) (by kernel_rfl) (by kernel_rfl) ?tkq37 ?tky37 hHeld ?tkr37
    case tkh37 => (simp only [List.getElem?_toArray, List.getElem?_cons_succ, List.getElem?_cons_zero]; rfl)
    case tkq37 => exact fun _ _ _ h => h
    case tky37 => exact Or.inl ⟨by rfl, by intro wSw hSw; (try dsimp only at hSw); go_simp; try with_reducible rfl⟩
    try simp only [Act.put, List.setIfInBounds_toArray, List.set_cons_zero, List.set_cons_succ]
    refine wpAnyH_take (i := 14) (oi := ?tko38) (v := ?tkv38) ?tkh38 (by kernel_rfl) (by kernel_rfl) (by kernel_rfl) ?tkq38 ?tky38 hHeld ?tkr38
    case tkh38 => (simp only [List.getElem?_toArray, List.getElem?_cons_succ, List.getElem?_cons_zero]; rfl)
    case tkq38 => exact fun _ _ _ h => h
    case tky38 => exact Or.inl ⟨by rfl, by intro wSw hSw; (try dsimp only at hSw); go_simp; try with_reducible rfl⟩
    try simp only [Act.put, List.setIfInBounds_toArray, List.set_cons_zero, List.set_cons_succ]
    refine wpAnyH_take (i := 15) (oi := ?tko39) (v := ?tkv39) ?tkh39 (by kernel_rfl) (by kernel_rfl) (by kernel_rfl) ?tkq39 ?tky39 hHeld ?tkr39
    case tkh39 => (simp only [List.getElem?_toArray, List.getElem?_cons_succ, List.getElem?_cons_zero]; rfl)
    case tkq39 => exact fun _ _ _ h => h
    case tky39 => exact Or.inl ⟨by rfl, by intro wSw hSw; (try dsimp only at hSw); go_simp; try with_reducible rfl⟩
    try simp only [Act.put, List.setIfInBounds_toArray, List.set_cons_zero, List.set_cons_succ]
    have k0 := hEB5.cell 0 rfl
    have k1 := hEB5.cell 1 rfl
    have k2 := hEB5.fz 0 rfl
    have k3 := hEB5.fz 1 rfl
    have hn1 : g ≠ V.heap.size := by have := HZ.out; omega
    have hn2 : w.heap.size ≠ V.heap.size := by have := HZ.out; omega
    refine wpAnyH_ready (rs := [17]) (by kernel_rfl) (by simp) ?_
    refine AllReadyH.cons (o := ?tko40) ?tkh40 (fun Kt40 hKt40 => ?_) AllReadyH.nil
    case tkh40 => (simp only [List.getElem?_toArray, List.getElem?_cons_succ, List.getElem?_cons_zero]; rfl)
    go_simp
    (skip)
    refine hKt40.out _ _ ?_ (fun hHt40 => ?_)
    · (exact HSW.out _ ((HB5.out.other _ _ hn1).other _ _ hn1) ((HX5.out.other _ _ hn2).other _ _ hn2))
    clear hKt40 Kt40 hHeld
    have hHeld := hHt40
    clear hHt40
    try simp only [Act.put, List.setIfInBounds_toArray, List.set_cons_zero, List.set_cons_succ]
    refine wpAnyH_take (i := 18) (oi := ?tko41) (v := ?tkv41) ?tkh41 (by kernel_rfl) (by kernel_rfl) (by kernel_rfl) ?tkq41 ?tky41 hHeld ?tkr41
    case tkh41 => (simp only [List.getElem?_toArray, List.getElem?_cons_succ, List.getElem?_cons_zero]; rfl)
    case tkq41 => exact fun _ _ _ h => h
    case tky41 => exact Or.inl ⟨by rfl, by intro wSw hSw; (try dsimp only at hSw); go_simp; try with_reducible rfl⟩
    try simp only [Act.put, List.setIfInBounds_toArray, List.set_cons_zero, List.set_cons_succ]
    refine wpAnyH_take (i := 19) (oi := ?tko42) (v := ?tkv42) ?tkh42 (by kernel_rfl) (by kernel_rfl) (by kernel_rfl) ?tkq42 ?tky42 hHeld ?tkr42
    case tkh42 => (simp only [List.getElem?_toArray, List.getElem?_cons_succ, List.getElem?_cons_zero]; rfl)
    case tkq42 => exact fun _ _ _ h => h
    case tky42 => exact Or.inl ⟨by rfl, by intro wSw hSw; (try dsimp only at hSw); go_simp; try with_reducible rfl⟩
    try simp only [Act.put, List.setIfInBounds_toArray, List.set_cons_zero, List.set_cons_succ]
    refine wpAnyH_done (by kernel_rfl) ?_ _
    have hz := HZ.out
    have hn3 : T1.heap.size ≠ V.heap.size := by omega
    have hn4 : T2.heap.size ≠ V.heap.size := by omega
    have hz4 := HZ4.out
    have FB := (hEB5.set 0 (.int .u64 X.time) (by simp)).set 1 (.slice K X.ids.length c) (by simp)
    have FX := (HX5.out.other ⟨V.heap.size, 0, none⟩ (.int .u64 X.time) hn2).other ⟨V.heap.size, 1, none⟩ (.slice K X.ids.length c) hn2
    have FE := (HE5.out.other ⟨V.heap.size, 0, none⟩ (.int .u64 X.time) hn3).other ⟨V.heap.size, 1, none⟩ (.slice K X.ids.length c) hn3
    have FH := (HH5.out.other ⟨V.heap.size, 0, none⟩ (.int .u64 X.time) hn4).other ⟨V.heap.size, 1, none⟩ (.slice K X.ids.length c) hn4
    have hns : ¬ S V.heap.size := fun h => by have := HSS.out _ h; omega
    have FS := Lib.hid (lsrc_set (lsrc_set hsr ⟨V.heap.size, 0, none⟩ (.int .u64 X.time) (by show V.heap.size ≠ q; omega) hns) ⟨V.heap.size, 1, none⟩ (.slice K X.ids.length c) (by show V.heap.size ≠ q; omega) hns)
    have FG := Lib.hid (grown_set (grown_set (grown_trans HG4.out hgr) ⟨V.heap.size, 0, none⟩ (.int .u64 X.time) (by show w.heap.size ≤ V.heap.size; omega)) ⟨V.heap.size, 1, none⟩ (.slice K X.ids.length c) (by show w.heap.size ≤ V.heap.size; omega))
    have FV := Lib.hid (evok_cell (evok_cell hev ⟨V.heap.size, 0, none⟩ (.int .u64 X.time) (fun a e _ => by have := hfar a e; show a.block ≠ V.heap.size; omega)) ⟨V.heap.size, 1, none⟩ (.slice K X.ids.length c) (fun a e _ => by have := hfar a e; show a.block ≠ V.heap.size; omega))
    have FK := Lib.hid (show (∀ a, K = some a → w.heap.size ≤ a.block) ∧ (∀ a, K = some a → 0 < X.ids.length → a.block ≠ V.heap.size) ∧ (∀ a, K = some a → T2.heap.size < a.block) from
      ⟨fun a e => by have := hfar a e; omega, fun a e _ => by have := hfar a e; omega, fun a e => by have := hfar a e; omega⟩)
    have FGE := Lib.hid (show w.heap.size + 3 ≤ V.heap.size by omega)
    clear hHeld HB4 HX4 HE4 HH4 HB5 HX5 HE5 HH5 hN' hev hsr hgr hfar HSTEP HSW HBV HXV HEV HHV HGV hEB5 HEB k0 k1 k2 k3 hn1 hn2 hn3 hn4 hz4 hz hns HC4 HG4 HZ4
    generalize (w4.setCell ⟨V.heap.size, 0, none⟩ (.int .u64 X.time)).setCell ⟨V.heap.size, 1, none⟩ (.slice K X.ids.length c) = W5 at FB FX FE FH FS FG FV ⊢
    have e0 := FB.cell 0 rfl
    have e1 := FB.cell 1 rfl
    have y0 := FX.cell 0 rfl
    have y2 := FX.cell 2 rfl
    have y3 := FX.cell 3 rfl
    have t0 := FE.cell 0 rfl
    have t1 := FE.cell 1 rfl
    have tf0 := FE.fz 0 rfl
    have tf1 := FE.fz 1 rfl
    have v0 := FH.cell 0 rfl
    have v1 := FH.cell 1 rfl
    have v2 := FH.cell 2 rfl
    have v3 := FH.cell 3 rfl
    have v4 := FH.cell 4 rfl
    have vf0 := FH.fz 0 rfl
    have vf1 := FH.fz 1 rfl
    have vf2 := FH.fz 2 rfl
    have vf3 := FH.fz 3 rfl
    have vf4 := FH.fz 4 rfl
    have hne : T1.heap.size ≠ T2.heap.size := by have := HZ.out; omega
    have hq1 : T1.heap.size ≠ q := by have := HZ.out; omega
    have hq2 : T2.heap.size ≠ q := by have := HZ.out; omega
    have hs1 : ¬ S T1.heap.size := fun h => by have := HSS.out _ h; have := HZ.out; omega
    have hs2 : ¬ S T2.heap.size := fun h => by have := HSS.out _ h; have := HZ.out; omega
    have hw1 : w.heap.size ≤ T1.heap.size := by have := HZ.out; omega
    have hw2 : w.heap.size ≤ T2.heap.size := by have := HZ.out; omega
    have hge1 : V.heap.size ≠ T1.heap.size := by have := HZ.out; have := FGE.out; omega
    have hge2 : V.heap.size ≠ T2.heap.size := by have := HZ.out; have := FGE.out; omega
    have hge3 : V.heap.size ≠ w.heap.size := by have := FGE.out; omega
    have hwt1 : w.heap.size ≠ T1.heap.size := by have := HZ.out; omega
    have hwt2 : w.heap.size ≠ T2.heap.size := by have := HZ.out; omega
    by_cases h0 : er = 0
    rotate_left
    · have hr : rE = er := by rw [← HRE.out, if_pos h0]
      have h0' : ((er : Int) == 0) = false := by simp; omega
      have HC := Lib.hid (put7_cells FE FH hne (.int .u64 0) (.slice none 0 0) (.int .i64 0) (.int .i64 0) (.int .i64 0) (.int .u64 0) (.int .i64 0))
      have HEND := Lib.hid (HGOT.out (.returned (.tuple #[.agg #[.int .u64 0, .slice none 0 0], .agg #[.int .i64 0, .int .i64 0, .int .i64 0, .int .u64 0, .int .i64 0], .int .i64 (er : Nat)])) _ ⟨N', put7_src FS.out ⟨hq1, hs1⟩ ⟨hq2, hs2⟩ (.int .u64 0) (.slice none 0 0) (.int .i64 0) (.int .i64 0) (.int .i64 0) (.int .u64 0) (.int .i64 0), FN.out, put7_grown FG.out hw1 hw2 (.int .u64 0) (.slice none 0 0) (.int .i64 0) (.int .i64 0) (.int .i64 0) (.int .u64 0) (.int .i64 0), .inl ⟨by omega, by rw [hr]⟩⟩)
      clear FB FX FE FH FS FG FV FK FN hq1 hq2 hs1 hs2 hw1 hw2 hr HRE HGOT HNE HSS HZ FGE q63 hN hM hx1 hx2 hql hgl hgq
      go_wp2_with fail
      have c0 := HC.out.1.cell 0 rfl
      have c1 := HC.out.1.cell 1 rfl
      have d0 := HC.out.2.cell 0 rfl
      have d1 := HC.out.2.cell 1 rfl
      have d2 := HC.out.2.cell 2 rfl
      have d3 := HC.out.2.cell 3 rfl
      have d4 := HC.out.2.cell 4 rfl
      refine bodyPost_ret (v := .tuple #[.agg #[.int .u64 0, .slice none 0 0], .agg #[.int .i64 0, .int .i64 0, .int .i64 0, .int .u64 0, .int .i64 0], .int .i64 (er : Nat)]) (by simp [results, Tryz.results77, go_sem, c0, c1, d0, d1, d2, d3, d4]) rfl ?_
      exact HEND.out
    subst h0
    by_cases hlt : X.time < x.tm
    · have hr : rE = 8 := by rw [← HRE.out, if_neg (fun e => e rfl), if_pos hlt]
      have HC := Lib.hid (put7_cells FE FH hne (.int .u64 0) (.slice none 0 0) (.int .i64 0) (.int .i64 0) (.int .i64 0) (.int .u64 0) (.int .i64 0))
      have HEND := Lib.hid (HGOT.out (.returned (.tuple #[.agg #[.int .u64 0, .slice none 0 0], .agg #[.int .i64 0, .int .i64 0, .int .i64 0, .int .u64 0, .int .i64 0], .int .i64 (8 : Nat)])) _ ⟨N', put7_src FS.out ⟨hq1, hs1⟩ ⟨hq2, hs2⟩ (.int .u64 0) (.slice none 0 0) (.int .i64 0) (.int .i64 0) (.int .i64 0) (.int .u64 0) (.int .i64 0), FN.out, put7_grown FG.out hw1 hw2 (.int .u64 0) (.slice none 0 0) (.int .i64 0) (.int .i64 0) (.int .i64 0) (.int .u64 0) (.int .i64 0), .inl ⟨by omega, by rw [hr]⟩⟩)
      clear FB FX FE FH FS FG FV FK FN hq1 hq2 hs1 hs2 hw1 hw2 hr HRE HGOT HNE HSS HZ FGE q63 hN hM hx1 hx2 hql hgl hgq
      go_wp2_with fail
      have c0 := HC.out.1.cell 0 rfl
      have c1 := HC.out.1.cell 1 rfl
      have d0 := HC.out.2.cell 0 rfl
      have d1 := HC.out.2.cell 1 rfl
      have d2 := HC.out.2.cell 2 rfl
      have d3 := HC.out.2.cell 3 rfl
      have d4 := HC.out.2.cell 4 rfl
      refine bodyPost_ret (v := .tuple #[.agg #[.int .u64 0, .slice none 0 0], .agg #[.int .i64 0, .int .i64 0, .int .i64 0, .int .u64 0, .int .i64 0], .int .i64 (8 : Nat)]) (by simp [results, Tryz.results77, go_sem, c0, c1, d0, d1, d2, d3, d4]) rfl ?_
      exact HEND.out
    · have hr : rE = 0 := by rw [← HRE.out, if_neg (fun e => e rfl), if_neg hlt]
      have HC := Lib.hid (put7_cells FE FH hne (.int .u64 X.time) (.slice K X.ids.length c) (.int .i64 x.id) (.int .i64 (nx : Nat)) (.int .i64 (x.ix + 1)) (.int .u64 X.time) (.int .i64 (X.ids.length : Nat)))
      have HEND := Lib.hid (HGOT.out (.returned (.tuple #[.agg #[.int .u64 X.time, .slice K X.ids.length c], .agg #[.int .i64 x.id, .int .i64 (nx : Nat), .int .i64 (x.ix + 1), .int .u64 X.time, .int .i64 (X.ids.length : Nat)], .int .i64 0])) _ ⟨N', put7_src FS.out ⟨hq1, hs1⟩ ⟨hq2, hs2⟩ (.int .u64 X.time) (.slice K X.ids.length c) (.int .i64 x.id) (.int .i64 (nx : Nat)) (.int .i64 (x.ix + 1)) (.int .u64 X.time) (.int .i64 (X.ids.length : Nat)), FN.out, put7_grown FG.out hw1 hw2 (.int .u64 X.time) (.slice K X.ids.length c) (.int .i64 x.id) (.int .i64 (nx : Nat)) (.int .i64 (x.ix + 1)) (.int .u64 X.time) (.int .i64 (X.ids.length : Nat)), .inr ⟨hr, K, c, rfl, put7_ev FV.out (fun a e _ => by have := FK.out.2.2 a e; have := HZ.out; omega) (fun a e _ => by have := FK.out.2.2 a e; omega) (.int .u64 X.time) (.slice K X.ids.length c) (.int .i64 x.id) (.int .i64 (nx : Nat)) (.int .i64 (x.ix + 1)) (.int .u64 X.time) (.int .i64 (X.ids.length : Nat)), FK.out.1⟩⟩)
      have HFB := Lib.hid FB
      have HFX := Lib.hid FX
      clear FB FX FE FH FS FG FV FK FN hq1 hq2 hs1 hs2 hw1 hw2 hr HRE HGOT HNE HSS HZ FGE q63 hN hM hx1 hx2 hql hgl hgq
      go_wp2_with fail
      have HSX := Lib.hid (show ∀ W : World, Blk W V.heap.size [.int .u64 X.time, .slice K X.ids.length c] → Blk W w.heap.size [.int .i64 x.id, .int .i64 x.at_, .int .i64 x.ix, .int .u64 x.tm, .int .i64 x.ids] → W.cell? ⟨V.heap.size, 0, none⟩ = some (.int .u64 X.time) ∧ W.cell? ⟨V.heap.size, 1, none⟩ = some (.slice K X.ids.length c) ∧ W.cell? ⟨w.heap.size, 0, none⟩ = some (.int .i64 x.id) ∧ W.cell? ⟨w.heap.size, 2, none⟩ = some (.int .i64 x.ix) from
        fun W h1 h2 => ⟨h1.cell 0 rfl, h1.cell 1 rfl, h2.cell 0 rfl, h2.cell 2 rfl⟩)
      have hwr : IntKind.i64.wrap (x.ix + 1) = x.ix + 1 := by rw [IntKind.wrap_i64]; omega
      refine wp_region_held_drew (S := fun W => W.cell? ⟨V.heap.size, 0, none⟩ = some (.int .u64 X.time) ∧ W.cell? ⟨V.heap.size, 1, none⟩ = some (.slice K X.ids.length c) ∧ W.cell? ⟨w.heap.size, 0, none⟩ = some (.int .i64 x.id) ∧ W.cell? ⟨w.heap.size, 2, none⟩ = some (.int .i64 x.ix)) (by kernel_rfl) (HSX.out _ HFB.out.drew HFX.out.drew) (fun hHeld => ?_)
      refine wpAnyH_take (i := 0) (oi := ?tko43) (v := ?tkv43) ?tkh43 (by kernel_rfl) (by kernel_rfl) (by kernel_rfl) ?tkq43 ?tky43 hHeld ?tkr43
      case tkh43 => (simp only [List.getElem?_toArray, List.getElem?_cons_zero]; rfl)
      case tkq43 => exact fun _ _ _ h => h
      case tky43 => exact Or.inl ⟨by rfl, by intro wSw hSw; (try dsimp only at hSw); go_simp; try with_reducible rfl⟩
      try simp only [Act.put, List.setIfInBounds_toArray, List.set_cons_zero, List.set_cons_succ]
      refine wpAnyH_take (i := 1) (oi := ?tko44) (v := ?tkv44) ?tkh44 (by kernel_rfl) (by kernel_rfl) (by kernel_rfl) ?tkq44 ?tky44 hHeld ?tkr44
      case tkh44 => (simp only [List.getElem?_toArray, List.getElem?_cons_succ, List.getElem?_cons_zero]; rfl)
      case tkq44 => exact fun _ _ _ h => h
      case tky44 => exact Or.inl ⟨by rfl, by intro wSw hSw; (try dsimp only at hSw); go_simp; try with_reducible rfl⟩
      try simp only [Act.put, List.setIfInBounds_toArray, List.set_cons_zero, List.set_cons_succ]
      refine wpAnyH_take (i := 2) (oi := ?tko45) (v := ?tkv45) ?tkh45 (by kernel_rfl) (by kernel_rfl) (by kernel_rfl) ?tkq45 ?tky45 hHeld ?tkr45
      case tkh45 => (simp only [List.getElem?_toArray, List.getElem?_cons_succ, List.getElem?_cons_zero]; rfl)
      case tkq45 => exact fun _ _ _ h => h
      case tky45 => exact Or.inl ⟨by rfl, by intro wSw hSw; (try dsimp only at hSw); go_simp; try with_reducible rfl⟩
      try simp only [Act.put, List.setIfInBounds_toArray, List.set_cons_zero, List.set_cons_succ]
      refine wpAnyH_take (i := 3) (oi := ?tko46) (v := ?tkv46) ?tkh46 (by kernel_rfl) (by kernel_rfl) (by kernel_rfl) ?tkq46 ?tky46 hHeld ?tkr46
      case tkh46 => (simp only [List.getElem?_toArray, List.getElem?_cons_succ, List.getElem?_cons_zero]; rfl)
      case tkq46 => exact fun _ _ _ h => h
      case tky46 => exact Or.inl ⟨by rfl, by intro wSw hSw; (try dsimp only at hSw); go_simp; try with_reducible rfl⟩
      try simp only [Act.put, List.setIfInBounds_toArray, List.set_cons_zero, List.set_cons_succ]
      refine wpAnyH_take (i := 4) (oi := ?tko47) (v := ?tkv47) ?tkh47 (by kernel_rfl) (by kernel_rfl) (by kernel_rfl) ?tkq47 ?tky47 hHeld ?tkr47
      case tkh47 => (simp only [List.getElem?_toArray, List.getElem?_cons_succ, List.getElem?_cons_zero]; rfl)
      case tkq47 => exact fun _ _ _ h => h
      case tky47 => exact Or.inl ⟨by rfl, by intro wSw hSw; (try dsimp only at hSw); go_simp; try with_reducible rfl⟩
      try simp only [Act.put, List.setIfInBounds_toArray, List.set_cons_zero, List.set_cons_succ]
      refine wpAnyH_take (i := 5) (oi := ?tko48) (v := ?tkv48) ?tkh48 (by kernel_rfl) (by kernel_rfl) (by kernel_rfl) ?tkq48 ?tky48 hHeld ?tkr48
      case tkh48 => (simp only [List.getElem?_toArray, List.getElem?_cons_succ, List.getElem?_cons_zero]; rfl)
      case tkq48 => exact fun _ _ _ h => h
      case tky48 => exact Or.inl ⟨by rfl, by intro wSw hSw; (try dsimp only at hSw); go_simp; try with_reducible rfl⟩
      try simp only [Act.put, List.setIfInBounds_toArray, List.set_cons_zero, List.set_cons_succ]
      refine wpAnyH_take (i := 6) (oi := ?tko49) (v := ?tkv49) ?tkh49 (by kernel_rfl) (by kernel_rfl) (by kernel_rfl) ?tkq49 ?tky49 hHeld ?tkr49
      case tkh49 => (simp only [List.getElem?_toArray, List.getElem?_cons_succ, List.getElem?_cons_zero]; rfl)
      case tkq49 => exact fun _ _ _ h => h
      case tky49 => exact Or.inl ⟨by rfl, by intro wSw hSw; (try dsimp only at hSw); go_simp; try with_reducible rfl⟩
      try simp only [Act.put, List.setIfInBounds_toArray, List.set_cons_zero, List.set_cons_succ]
      refine wpAnyH_take (i := 7) (oi := ?tko50) (v := ?tkv50) ?tkh50 (by kernel_rfl) (by kernel_rfl) (by kernel_rfl) ?tkq50 ?tky50 hHeld ?tkr50
      case tkh50 => (simp only [List.getElem?_toArray, List.getElem?_cons_succ, List.getElem?_cons_zero]; rfl)
      case tkq50 => exact fun _ _ _ h => h
      case tky50 => exact Or.inl ⟨by rfl, by intro wSw hSw; (try dsimp only at hSw); go_simp; try with_reducible rfl⟩
      try simp only [Act.put, List.setIfInBounds_toArray, List.set_cons_zero, List.set_cons_succ]
      refine wpAnyH_take (i := 8) (oi := ?tko51) (v := ?tkv51) ?tkh51 (by kernel_rfl) (by kernel_rfl) (by kernel_rfl) ?tkq51 ?tky51 hHeld ?tkr51
      case tkh51 => (simp only [List.getElem?_toArray, List.getElem?_cons_succ, List.getElem?_cons_zero]; rfl)
      case tkq51 => exact fun _ _ _ h => h
      case tky51 => exact Or.inl ⟨by rfl, by intro wSw hSw; (try dsimp only at hSw); go_simp; try with_reducible rfl⟩
      try simp only [Act.put, List.setIfInBounds_toArray, List.set_cons_zero, List.set_cons_succ]
      refine wpAnyH_take (i := 9) (oi := ?tko52) (v := ?tkv52) ?tkh52 (by kernel_rfl) (by kernel_rfl) (by kernel_rfl) ?tkq52 ?tky52 hHeld ?tkr52
      case tkh52 => (simp only [List.getElem?_toArray, List.getElem?_cons_succ, List.getElem?_cons_zero]; rfl)
      case tkq52 => exact fun _ _ _ h => h
      case tky52 => exact Or.inl ⟨by rfl, by intro wSw hSw; (try dsimp only at hSw); go_simp; try with_reducible rfl⟩
      try simp only [Act.put, List.setIfInBounds_toArray, List.set_cons_zero, List.set_cons_succ]
      refine wpAnyH_take (i := 10) (oi := ?tko53) (v := ?tkv53) ?tkh53 (by kernel_rfl) (by kernel_rfl) (by kernel_rfl) ?tkq53 ?tky53 hHeld ?tkr53
      case tkh53 => (simp only [List.getElem?_toArray, List.getElem?_cons_succ, List.getElem?_cons_zero]; rfl)
      case tkq53 => exact fun _ _ _ h => h
      case tky53 => exact Or.inl ⟨by rfl, by intro wSw hSw; (try dsimp only at hSw); go_simp; try with_reducible rfl⟩
      try simp only [Act.put, List.setIfInBounds_toArray, List.set_cons_zero, List.set_cons_succ]
      refine wpAnyH_take (i := 11) (oi := ?tko54) (v := ?tkv54) ?tkh54 (by kernel_rfl) (by kernel_rfl) (by kernel_rfl) ?tkq54 ?tky54 hHeld ?tkr54
      case tkh54 => (simp only [List.getElem?_toArray, List.getElem?_cons_succ, List.getElem?_cons_zero]; rfl)
      case tkq54 => exact fun _ _ _ h => h
      case tky54 => exact Or.inl ⟨by rfl, by intro wSw hSw; (try dsimp only at hSw); go_simp; try with_reducible rfl⟩
      try simp only [Act.put, List.setIfInBounds_toArray, List.set_cons_zero, List.set_cons_succ]
      refine wpAnyH_take (i := 12) (oi := ?tko55) (v := ?tkv55) ?tkh55 (by kernel_rfl) (by kernel_rfl) (by kernel_rfl) ?tkq55 ?tky55 hHeld ?tkr55
      case tkh55 => (simp only [List.getElem?_toArray, List.getElem?_cons_succ, List.getElem?_cons_zero]; rfl)
      case tkq55 => exact fun _ _ _ h => h
      case tky55 => exact Or.inl ⟨by rfl, by intro wSw hSw; (try dsimp only at hSw); go_simp; try with_reducible rfl⟩
      try simp only [Act.put, List.setIfInBounds_toArray, List.set_cons_zero, List.set_cons_succ]
      refine wpAnyH_ready (rs := [13]) (by kernel_rfl) (by simp) ?_
      refine AllReadyH.cons (o := ?tko56) ?tkh56 (fun Kt56 hKt56 => ?_) AllReadyH.nil
      case tkh56 => (simp only [List.getElem?_toArray, List.getElem?_cons_succ, List.getElem?_cons_zero]; rfl)
      go_simp
      (skip)
      refine hKt56.out _ _ ?_ (fun hHt56 => ?_)
      · (exact HSX.out _ ((HFB.out.drew.other _ _ hge1).other _ _ hge1) ((HFX.out.drew.other _ _ hwt1).other _ _ hwt1))
      clear hKt56 Kt56 hHeld
      have hHeld := hHt56
      clear hHt56
      try simp only [Act.put, List.setIfInBounds_toArray, List.set_cons_zero, List.set_cons_succ]
      refine wpAnyH_ready (rs := [14]) (by kernel_rfl) (by simp) ?_
      refine AllReadyH.cons (o := ?tko57) ?tkh57 (fun Kt57 hKt57 => ?_) AllReadyH.nil
      case tkh57 => (simp only [List.getElem?_toArray, List.getElem?_cons_succ, List.getElem?_cons_zero]; rfl)
      go_simp
      (skip)
      refine hKt57.out _ _ ?_ (fun hHt57 => ?_)
      · (exact HSX.out _ (put7_off HFB.out hge1 hge2 (.int .u64 X.time) (.slice K X.ids.length c) (.int .i64 x.id) (.int .i64 (nx : Nat)) (.int .i64 (x.ix + 1)) (.int .u64 X.time) (.int .i64 (X.ids.length : Nat))).drew (put7_off HFX.out hwt1 hwt2 (.int .u64 X.time) (.slice K X.ids.length c) (.int .i64 x.id) (.int .i64 (nx : Nat)) (.int .i64 (x.ix + 1)) (.int .u64 X.time) (.int .i64 (X.ids.length : Nat))).drew)
      clear hKt57 Kt57 hHeld
      have hHeld := hHt57
      clear hHt57
      try simp only [Act.put, List.setIfInBounds_toArray, List.set_cons_zero, List.set_cons_succ]
      refine wpAnyH_take (i := 15) (oi := ?tko58) (v := ?tkv58) ?tkh58 (by kernel_rfl) (by kernel_rfl) (by kernel_rfl) ?tkq58 ?tky58 hHeld ?tkr58
      case tkh58 => (simp only [List.getElem?_toArray, List.getElem?_cons_succ, List.getElem?_cons_zero]; rfl)
      case tkq58 => exact fun _ _ _ h => h
      case tky58 => exact Or.inl ⟨by rfl, by intro wSw hSw; (try dsimp only at hSw); go_simp; try with_reducible rfl⟩
      try simp only [Act.put, List.setIfInBounds_toArray, List.set_cons_zero, List.set_cons_succ]
      refine wpAnyH_done (by kernel_rfl) ?_ _
      clear hHeld
      go_wp2_with fail
      have c0 := HC.out.1.drew.cell 0 rfl
      have c1 := HC.out.1.drew.cell 1 rfl
      have d0 := HC.out.2.drew.cell 0 rfl
      have d1 := HC.out.2.drew.cell 1 rfl
      have d2 := HC.out.2.drew.cell 2 rfl
      have d3 := HC.out.2.drew.cell 3 rfl
      have d4 := HC.out.2.drew.cell 4 rfl
      refine bodyPost_ret (v := .tuple #[.agg #[.int .u64 X.time, .slice K X.ids.length c], .agg #[.int .i64 x.id, .int .i64 (nx : Nat), .int .i64 (x.ix + 1), .int .u64 X.time, .int .i64 (X.ids.length : Nat)], .int .i64 0]) (by simp [results, Tryz.results77, go_sem, c0, c1, d0, d1, d2, d3, d4]) rfl ?_
      exact got_drew HEND.out
end Go.Proofs.YtimbbfneaaglbaaGreat.Heads
