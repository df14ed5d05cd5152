/-
  The walk of the reference's Add. By an AI agent.
-/
import Derived.Test.YtlkfdnbgplkiiaaTraceRef4
import Derived.Test.YtlkfdnbgplkiiaaSkips
namespace Go.Proofs.Ytlkfdnbgplkiiaa.Trace
open Go.RowKit Go.Proofs.Ytlkfdnbgplkiiaa.Ints Go.Proofs.Ytlkfdnbgplkiiaa.Mem

/-- What a call that hands back a trace and an error leaves. -/
def GotTrE (w : World) (t : Tr) (x : Nat) (e : Ending) (w' : World) : Prop :=
  ∃ NA nn nc EA ne ec, e = .returned (.tuple #[.agg #[.slice NA nn nc, .slice EA ne ec], .int .i64 (x : Int)]) ∧ TrOk Any w' NA nn nc EA ne ec t ∧ Below w.heap.size w w'
/-- The boxes of a trace, an event, and the result. -/
abbrev boxA (w : World) (NA : Option Addr) (nn nc : Nat) (EA : Option Addr) (ne ec : Nat) (tm : Int) (K : Option Addr) (n c : Nat) : World :=
  ((boxT w NA nn nc EA ne ec).alloc (.cells #[.int .u64 tm, .slice K n c] 39)).alloc (.cells #[.slice none 0 0, .slice none 0 0] 26)
theorem boxA_size (w : World) (NA : Option Addr) (nn nc : Nat) (EA : Option Addr) (ne ec : Nat) (tm : Int) (K : Option Addr) (n c : Nat) : (boxA w NA nn nc EA ne ec tm K n c).heap.size = w.heap.size + 3 := by simp [boxA, boxT]
theorem boxA_at {w W : World} {NA : Option Addr} {nn nc : Nat} {EA : Option Addr} {ne ec : Nat} {tm : Int} {K : Option Addr} {n c : Nat} (hb : Below (boxA w NA nn nc EA ne ec tm K n c).heap.size (boxA w NA nn nc EA ne ec tm K n c) W) :
    W.cell? ⟨w.heap.size, 0, none⟩ = some (.slice NA nn nc) ∧ W.cell? ⟨w.heap.size, 1, none⟩ = some (.slice EA ne ec) ∧ W.cell? ⟨w.heap.size + 1, 0, none⟩ = some (.int .u64 tm) ∧ W.cell? ⟨w.heap.size + 1, 1, none⟩ = some (.slice K n c) ∧ Below w.heap.size w W := by
  rw [boxA_size] at hb
  have e : (boxT w NA nn nc EA ne ec).heap.size = w.heap.size + 1 := by simp [boxT]
  have hy : Below (w.heap.size + 2) ((boxT w NA nn nc EA ne ec).alloc (.cells #[.int .u64 tm, .slice K n c] 39)) W := ((Below.refl _ _).alloc (by simp [boxT]) _).trans (hb.mono (by omega))
  have hx : Below (w.heap.size + 1) (boxT w NA nn nc EA ne ec) W := ((Below.refl _ _).alloc (by omega) _).trans (hy.mono (by omega))
  obtain ⟨t0, t1⟩ := boxT_at hx
  have x0 : ((boxT w NA nn nc EA ne ec).alloc (.cells #[.int .u64 tm, .slice K n c] 39)).cell? ⟨w.heap.size + 1, 0, none⟩ = some (.int .u64 tm) := by rw [← e]; exact box_cell 0 _ rfl
  have x1 : ((boxT w NA nn nc EA ne ec).alloc (.cells #[.int .u64 tm, .slice K n c] 39)).cell? ⟨w.heap.size + 1, 1, none⟩ = some (.slice K n c) := by rw [← e]; exact box_cell 1 _ rfl
  exact ⟨t0, t1, (hy.cell (p := ⟨w.heap.size + 1, 0, none⟩) (by show w.heap.size + 1 < w.heap.size + 2; omega)).trans x0, (hy.cell (p := ⟨w.heap.size + 1, 1, none⟩) (by show w.heap.size + 1 < w.heap.size + 2; omega)).trans x1, boxT_below hx⟩
theorem boxA_two {w W : World} {NA : Option Addr} {nn nc : Nat} {EA : Option Addr} {ne ec : Nat} {tm : Int} {K : Option Addr} {n c : Nat} (hb : Below (boxA w NA nn nc EA ne ec tm K n c).heap.size (boxA w NA nn nc EA ne ec tm K n c) W) (u0 u1 : Value) :
    Below w.heap.size w ((W.setCell ⟨w.heap.size + 2, 0, none⟩ u0).setCell ⟨w.heap.size + 2, 1, none⟩ u1) :=
  ((boxA_at hb).2.2.2.2.setCell (p := ⟨w.heap.size + 2, 0, none⟩) (by show w.heap.size ≤ w.heap.size + 2; omega) u0).setCell (p := ⟨w.heap.size + 2, 1, none⟩) (by show w.heap.size ≤ w.heap.size + 2; omega) u1
/-- A lone event in a block, as events. -/
theorem box_evs {S : Nat → Prop} {w : World} {g : Nat} {T : TypeId} {fr : Nat × Nat} {x : Ev} {K : Option Addr} {c : Nat} (h : w.heap[g]? = some (.cells #[.int .u64 x.time, .slice K x.ids.length c] T fr)) (hk : EvOk w x K c) (hS : S g) (hKS : ∀ a, K = some a → 0 < x.ids.length → S a.block) :
    Evs S w (some ⟨g, 0, none⟩) [x] := fun _ => by
  refine ⟨g, 0, rfl, fun j e hj => ?_⟩
  have hj0 : j = 0 := by
    have := (List.getElem?_eq_some_iff.1 hj).1
    simpa using this
  subst hj0
  simp only [List.getElem?_cons_zero, Option.some.injEq] at hj
  subst hj
  exact ⟨by rw [cell_of_row w g _ _ T fr h]; rfl, hk.1, K, c, by rw [cell_of_row w g _ _ T fr h]; rfl, hk.2.1, hk.2.2.1, hk.2.2.2, hS, hKS⟩
theorem Evs.small {w : World} {A : Option Addr} {l : List Ev} (h : Evs Any w A l) : Evs (fun b => b < w.heap.size) w A l := h.mono fun _ hb _ => hb
theorem kids_small {w : World} {x : Ev} {K : Option Addr} {c : Nat} (h : EvOk w x K c) : ∀ a, K = some a → 0 < x.ids.length → a.block < w.heap.size := fun a e h0 => by
  obtain ⟨b, off, e', hc⟩ := h.2.1.2.2 h0
  rw [e] at e'
  injection e' with e'
  subst e'
  exact World.block_lt_of_cell? w _ (hc 0 h0)
/-- The boxes of a trace and an event. -/
abbrev boxE (w : World) (NA : Option Addr) (nn nc : Nat) (EA : Option Addr) (ne ec : Nat) (tm : Int) (K : Option Addr) (n c : Nat) : World :=
  (boxT w NA nn nc EA ne ec).alloc (.cells #[.int .u64 tm, .slice K n c] 39)
theorem boxE_at {w W : World} {NA : Option Addr} {nn nc : Nat} {EA : Option Addr} {ne ec : Nat} {tm : Int} {K : Option Addr} {n c : Nat} (hy : Below (w.heap.size + 2) (boxE w NA nn nc EA ne ec tm K n c) W) :
    W.cell? ⟨w.heap.size, 0, none⟩ = some (.slice NA nn nc) ∧ W.cell? ⟨w.heap.size, 1, none⟩ = some (.slice EA ne ec) ∧ W.cell? ⟨w.heap.size + 1, 0, none⟩ = some (.int .u64 tm) ∧ W.cell? ⟨w.heap.size + 1, 1, none⟩ = some (.slice K n c) ∧ Below (w.heap.size + 2) (boxE w NA nn nc EA ne ec tm K n c) W := by
  have e : (boxT w NA nn nc EA ne ec).heap.size = w.heap.size + 1 := by simp [boxT]
  have hx : Below (w.heap.size + 1) (boxT w NA nn nc EA ne ec) W := ((Below.refl _ _).alloc (by omega) _).trans (hy.mono (by omega))
  obtain ⟨t0, t1⟩ := boxT_at hx
  have x0 : (boxE w NA nn nc EA ne ec tm K n c).cell? ⟨w.heap.size + 1, 0, none⟩ = some (.int .u64 tm) := by rw [← e]; exact box_cell 0 _ rfl
  have x1 : (boxE w NA nn nc EA ne ec tm K n c).cell? ⟨w.heap.size + 1, 1, none⟩ = some (.slice K n c) := by rw [← e]; exact box_cell 1 _ rfl
  exact ⟨t0, t1, (hy.cell (p := ⟨w.heap.size + 1, 0, none⟩) (by show w.heap.size + 1 < w.heap.size + 2; omega)).trans x0, (hy.cell (p := ⟨w.heap.size + 1, 1, none⟩) (by show w.heap.size + 1 < w.heap.size + 2; omega)).trans x1, hy⟩
theorem boxA_E {w W : World} {NA : Option Addr} {nn nc : Nat} {EA : Option Addr} {ne ec : Nat} {tm : Int} {K : Option Addr} {n c : Nat} (hb : Below (boxA w NA nn nc EA ne ec tm K n c).heap.size (boxA w NA nn nc EA ne ec tm K n c) W) :
    Below (w.heap.size + 2) (boxE w NA nn nc EA ne ec tm K n c) W := by
  rw [boxA_size] at hb
  exact ((Below.refl _ _).alloc (by simp [boxE, boxT]) _).trans (hb.mono (by omega))
theorem EvOk.seen {w : World} {e : Ev} {K : Option Addr} {c : Nat} (h : EvOk w e K c) {W : World} (hb : Below w.heap.size w W) : EvOk W e K c := h.below hb
theorem blk_below {w w' : World} {g : Nat} {o : Obj} (hb : Below w.heap.size w w') (h : w.heap[g]? = some o) : w'.heap[g]? = some o := by
  have hlt : g < w.heap.size := by
    rcases Nat.lt_or_ge g w.heap.size with h' | h'
    · exact h'
    · rw [Array.getElem?_eq_none h'] at h; cases h
  exact (hb.block g hlt).trans h
theorem blk_grown {w w' : World} {g : Nat} {o : Obj} {row : Option Nat} (hg : w.grownBy w' row) (h : w.heap[g]? = some o) (hne : some g ≠ row) : w'.heap[g]? = some o := by
  have hlt : g < w.heap.size := by
    rcases Nat.lt_or_ge g w.heap.size with h' | h'
    · exact h'
    · rw [Array.getElem?_eq_none h'] at h; cases h
  exact (hg.block g hlt hne).trans h
/-- All but one block. -/
abbrev But (g : Nat) : Nat → Prop := fun b => b ≠ g
/-- What the appends need of the caller's events, whatever is made later. -/
theorem add_ready {w V : World} {NA : Option Addr} {nn nc : Nat} {EA : Option Addr} {ne ec : Nat} {tm : Int} {K' : Option Addr} {n c' : Nat} {l : List Ev} {x : Ev} {K : Option Addr} {c : Nat} (h : Evs (fun b => b < w.heap.size) w EA l) (hk : ∀ a, K = some a → 0 < x.ids.length → a.block < w.heap.size) (hx : EvOk w x K c)
    (hB : Below (boxA w NA nn nc EA ne ec tm K' n c').heap.size (boxA w NA nn nc EA ne ec tm K' n c') V) :
    (∀ (W : World) (r : Option Nat), Below V.heap.size V W → (∀ g, r = some g → V.heap.size ≤ g) → Evs (fun b => But (w.heap.size + 2) b ∧ some b ≠ r) W EA l) ∧
    (∀ (W : World) (r : Option Nat) (g : Nat) (T : TypeId) (fr : Nat × Nat), Below V.heap.size V W → (∀ q, r = some q → V.heap.size ≤ q ∧ q ≠ g) → V.heap.size ≤ g → W.heap[g]? = some (.cells #[.int .u64 x.time, .slice K x.ids.length c] T fr) → Evs (fun b => But (w.heap.size + 2) b ∧ some b ≠ r) W (some ⟨g, 0, none⟩) [x]) := by
  have hs : w.heap.size + 3 ≤ V.heap.size := by have := hB.size; rw [boxA_size] at this; exact this
  have hw := (boxA_at hB).2.2.2.2
  have key : ∀ (r : Option Nat), (∀ g, r = some g → V.heap.size ≤ g) → ∀ b, b < w.heap.size → But (w.heap.size + 2) b ∧ some b ≠ r := fun r hr b hb => ⟨by show b ≠ _; omega, fun e => by have := hr b e.symm; omega⟩
  refine ⟨fun W r hWb hr => ?_, fun W r g T fr hWb hr hg hblk => ?_⟩
  · exact ((h.mono fun b _ hb => key r hr b hb).below (hw.trans (hWb.mono hw.size)))
  · refine box_evs hblk (hx.below (hw.trans (hWb.mono hw.size))) ⟨by show g ≠ _; omega, fun e => ?_⟩ fun a e h0 => key r (fun q hq => (hr q hq).1) _ (hk a e h0)
    exact (hr g e.symm).2 rfl
theorem set2_cell (W : World) (g : Nat) (u0 u1 : Value) (p : Addr) (hp : p.block ≠ g) : ((W.setCell ⟨g, 0, none⟩ u0).setCell ⟨g, 1, none⟩ u1).cell? p = W.cell? p := by
  rw [World.cell?_of_block (w := W.setCell ⟨g, 0, none⟩ u0) (Below.heap_setCell _ ⟨g, 1, none⟩ u1 p.block hp), World.cell?_of_block (w := W) (Below.heap_setCell _ ⟨g, 0, none⟩ u0 p.block hp)]
/-- The trace with the new row, in the world behind the result's store. -/
theorem tr_added {w W : World} {NA : Option Addr} {nn nc : Nat} {EA : Option Addr} {ne ec : Nat} {t : Tr} {x : Ev} {base g : Nat} {v : Value} {l : List SEv} (h : TrOk Any w NA nn nc EA ne ec t) (hv : OwnEvs (But g) W base v l) (hl : l.map (·.1) = t.events ++ [x]) (hg : g < base) :
    ∃ A n c, v = .slice A n c ∧ ∀ u0 u1, Below w.heap.size w ((W.setCell ⟨g, 0, none⟩ u0).setCell ⟨g, 1, none⟩ u1) → TrOk Any ((W.setCell ⟨g, 0, none⟩ u0).setCell ⟨g, 1, none⟩ u1) NA nn nc A n c ⟨t.names, t.events ++ [x]⟩ := by
  obtain ⟨A, c, e, h1, h2, h3⟩ := hv.reads fun b hb _ => by show b ≠ g; omega
  refine ⟨A, l.length, c, e, fun u0 u1 hb => ⟨h.1, ?_, h.3.below hb, h.4, ?_, h.6, h2, h3⟩⟩
  · rw [← hl, List.length_map]
  · rw [hl] at h1
    exact (h1.keep (w' := (W.setCell ⟨g, 0, none⟩ u0).setCell ⟨g, 1, none⟩ u1) fun p u hp hc => by rw [set2_cell W g u0 u1 p hp]; exact hc).any

set_option maxHeartbeats 16000000 in
set_option maxRecDepth 100000 in
theorem refAdd (NA : Option Addr) (nn nc : Nat) (EA : Option Addr) (ne ec : Nat) (t : Tr) (x : Ev) (K : Option Addr) (c : Nat) (w : World) (h : TrOk Any w NA nn nc EA ne ec t) (hx : EvOk w x K c) (hn : ne ≤ 1048576) :
    Calls Try.prog 22 #[.agg #[.slice NA nn nc, .slice EA ne ec], .agg #[.int .u64 x.time, .slice K x.ids.length c]] w (GotTrE w (addT t x) (addE t x)) := by
  have hm : maxLen = 9223372036854775807 := rfl
  have hni : (nn : Int) ≤ 9223372036854775807 := by have := h.ncap; omega
  have hei : (ne : Int) ≤ 1048576 := by omega
  have hM := fun W (hb : Below w.heap.size w W) => refMay NA nn nc EA ne ec t W (h.below hb)
  have hI := fun W (hb : Below w.heap.size w W) => refIds K x.ids.length c (nn : Int) x.ids W (hx.2.1.below hb) (Nat.le_trans hx.2.2.1 hx.2.2.2) ⟨by omega, hni⟩
  obtain ⟨hw1, hw2⟩ := wf_u64 hx.1
  have HD := Lib.hid h
  have HE := Lib.hid hx
  obtain ⟨tm, htm⟩ : ∃ tm, x.time = tm := ⟨_, rfl⟩
  obtain ⟨q, hq⟩ : ∃ q, x.ids.length = q := ⟨_, rfl⟩
  rw [htm] at hw1 hw2 ⊢
  rw [hq] at hI ⊢
  have HTM := Lib.hid htm
  have HQ := Lib.hid hq
  rcases hmay : mayT t
  · have HX := Lib.hid (show addE t x = 1 by unfold addE; rw [hmay]; rfl)
    have HT := Lib.hid (show addT t x = noTr by unfold addT; rw [HX.out]; rfl)
    rw [hmay] at hM
    have HM := Lib.hid hM
    clear h hx hM hI hmay hm htm hq
    go_enter Try.func22, Try.ntmps22
    go_wp2_with (first
      | (go_at_call 28; refine (HM.out _ (boxA_at (Below.refl _ _)).2.2.2.2).mono ?_; rintro e w1 ⟨rfl, hb1⟩; obtain ⟨t0, t1, x0, x1, hbw⟩ := boxA_at hb1; obtain ⟨hc, hf⟩ := fcell hb1; have hz : w.heap.size + 2 < w1.heap.size := by have := hb1.size; rw [boxA_size] at this; omega)
      | fail)
    refine bodyPost_ret (v := .tuple #[.agg #[.slice none 0 0, .slice none 0 0], .int .i64 1]) (by simp [results, Try.results22, go_sem, hc]) rfl ?_
    rw [HT.out, HX.out]
    exact ⟨_, _, _, _, _, _, rfl, TrOk.none _ _, boxA_two hb1 _ _⟩
  have hnn : (nn : Int) = (t.names.length : Int) := by rw [h.nlen]
  rcases hid : idsOk x.ids (nn : Int)
  · have HX := Lib.hid (show addE t x = 9 by unfold addE; rw [hmay, ← hnn, hid]; rfl)
    have HT := Lib.hid (show addT t x = noTr by unfold addT; rw [HX.out]; rfl)
    rw [hmay] at hM
    rw [hid] at hI
    have HM := Lib.hid hM
    have HI := Lib.hid hI
    clear h hx hM hI hmay hm htm hq hid hnn
    go_enter Try.func22, Try.ntmps22
    go_wp2_with (first
      | (go_at_call 28; refine (HM.out _ (boxA_at (Below.refl _ _)).2.2.2.2).mono ?_; rintro e w1 ⟨rfl, hb1⟩; obtain ⟨t0, t1, x0, x1, hbw⟩ := boxA_at hb1; obtain ⟨hc, hf⟩ := fcell hb1; have hz : w.heap.size + 2 < w1.heap.size := by have := hb1.size; rw [boxA_size] at this; omega)
      | (go_at_call 13; refine (HI.out _ hbw).mono ?_; rintro e w' ⟨rfl, rfl⟩))
    refine bodyPost_ret (v := .tuple #[.agg #[.slice none 0 0, .slice none 0 0], .int .i64 9]) (by simp [results, Try.results22, go_sem, hc]) rfl ?_
    rw [HT.out, HX.out]
    exact ⟨_, _, _, _, _, _, rfl, TrOk.none _ _, boxA_two hb1 _ _⟩
  rw [hmay] at hM
  rw [hid] at hI
  have HM := Lib.hid hM
  have HI := Lib.hid hI
  rcases hlate : lateT t x
  · have HX := Lib.hid (show addE t x = 0 by unfold addE; rw [hmay, ← hnn, hid, hlate]; rfl)
    have HT := Lib.hid (show addT t x = ⟨t.names, t.events ++ [x]⟩ by unfold addT; rw [HX.out]; rfl)
    have hsmall := h.evs.small
    have hks := kids_small hx
    obtain ⟨iE, hiE, hz0, hz1, hz2⟩ := info_parts infoEvent
    have hel := h.elen
    have HSM := Lib.hid hsmall
    have HKS := Lib.hid hks
    have HN := Lib.hid hn
    have HEL := Lib.hid hel
    by_cases h0 : ne = 0
    · have h0d : decide ((ne : Int) > 0) = false := by simp; omega
      have h0e : decide (0 < ne) = false := by simp; omega
      have h0f : decide ((0 : Int) < (ne : Int)) = false := by simp; omega
      clear h0 h hx hM hI hmay hm htm hq hid hnn hlate hsmall hks hn hel
      go_enter Try.func22, Try.ntmps22
      go_wp2_with (first
        | (go_at_call 28; refine (HM.out _ (boxA_at (Below.refl _ _)).2.2.2.2).mono ?_; rintro e w1 ⟨rfl, hb1⟩; obtain ⟨t0, t1, x0, x1, hbw⟩ := boxA_at hb1; obtain ⟨hc, hf⟩ := fcell hb1; have hz : w.heap.size + 2 < w1.heap.size := by have := hb1.size; rw [boxA_size] at this; omega)
        | (go_at_call 13; refine (HI.out _ hbw).mono ?_; rintro e w' ⟨rfl, rfl⟩))
      go_quiet (fail)
      go_wp2
      clear h0d h0e h0f
      have hB0 := (below_drewN hb1 nq).drew
      refine wp_region_held_drew (S := (fun W => W.cell? ⟨w.heap.size, 0, none⟩ = some (.slice NA nn nc) ∧ W.cell? ⟨w.heap.size, 1, none⟩ = some (.slice EA ne ec) ∧ W.cell? ⟨w.heap.size + 1, 0, none⟩ = some (.int .u64 tm) ∧ W.cell? ⟨w.heap.size + 1, 1, none⟩ = some (.slice K q c) ∧ Below (w.heap.size + 2) (boxE w NA nn nc EA ne ec tm K q c) W)) (by kernel_rfl) (boxE_at (boxA_E hB0)) (fun hHeld => ?_)
      clear t0 t1 x0 x1 hbw hc hf hz hb1
      generalize (w'.drewN nq).drew = V at hHeld hB0 ⊢
      have hVs : w.heap.size + 3 ≤ V.heap.size := by have := hB0.size; rw [boxA_size] at this; exact this
      have HVS := Lib.hid hVs
      have HB0 := Lib.hid hB0
      have HEV := Lib.hid (add_ready HSM.out HKS.out HE.out hB0)
      rw [HTM.out, HQ.out] at HEV
      clear hVs hB0
      refine wpAnyH_take (i := 0) (oi := ?tko1) (v := ?tkv1) ?tkh1 (by kernel_rfl) (by kernel_rfl) (by kernel_rfl) ?tkq1 ?tky1 hHeld ?tkr1
      case tkh1 => (simp only [List.getElem?_toArray, List.getElem?_cons_zero]; rfl)
      case tkq1 => exact fun _ _ _ h => h
      case tky1 => exact Or.inl ⟨by rfl, by intro wSw hSw; (try dsimp only at hSw); go_simp; try with_reducible rfl⟩
      try simp only [Act.put, List.setIfInBounds_toArray, List.set_cons_zero, List.set_cons_succ]
      refine wpAnyH_take (i := 1) (oi := ?tko2) (v := ?tkv2) ?tkh2 (by kernel_rfl) (by kernel_rfl) (by kernel_rfl) ?tkq2 ?tky2 hHeld ?tkr2
      case tkh2 => (simp only [List.getElem?_toArray, List.getElem?_cons_succ, List.getElem?_cons_zero]; rfl)
      case tkq2 => exact fun _ _ _ h => h
      case tky2 => exact Or.inl ⟨by rfl, by intro wSw hSw; (try dsimp only at hSw); go_simp; try with_reducible rfl⟩
      try simp only [Act.put, List.setIfInBounds_toArray, List.set_cons_zero, List.set_cons_succ]
      refine wpAnyH_take (i := 3) (oi := ?tko3) (v := ?tkv3) ?tkh3 (by kernel_rfl) (by kernel_rfl) (by kernel_rfl) ?tkq3 ?tky3 hHeld ?tkr3
      case tkh3 => (simp only [List.getElem?_toArray, List.getElem?_cons_succ, List.getElem?_cons_zero]; rfl)
      case tkq3 => exact fun _ _ _ h => h
      case tky3 => exact Or.inl ⟨by rfl, by intro wSw hSw; (try dsimp only at hSw); go_simp; try with_reducible rfl⟩
      try simp only [Act.put, List.setIfInBounds_toArray, List.set_cons_zero, List.set_cons_succ]
      refine wpAnyH_take (i := 4) (oi := ?tko4) (v := ?tkv4) ?tkh4 (by kernel_rfl) (by kernel_rfl) (by kernel_rfl) ?tkq4 ?tky4 hHeld ?tkr4
      case tkh4 => (simp only [List.getElem?_toArray, List.getElem?_cons_succ, List.getElem?_cons_zero]; rfl)
      case tkq4 => exact fun _ _ _ h => h
      case tky4 => exact Or.inl ⟨by rfl, by intro wSw hSw; (try dsimp only at hSw); go_simp; try with_reducible rfl⟩
      try simp only [Act.put, List.setIfInBounds_toArray, List.set_cons_zero, List.set_cons_succ]
      refine wpAnyH_take (i := 6) (oi := ?tko5) (v := ?tkv5) ?tkh5 (by kernel_rfl) (by kernel_rfl) (by kernel_rfl) ?tkq5 ?tky5 hHeld ?tkr5
      case tkh5 => (simp only [List.getElem?_toArray, List.getElem?_cons_succ, List.getElem?_cons_zero]; rfl)
      case tkq5 => exact fun _ _ _ h => h
      case tky5 => exact Or.inl ⟨by rfl, by intro wSw hSw; (try dsimp only at hSw); go_simp; try with_reducible rfl⟩
      try simp only [Act.put, List.setIfInBounds_toArray, List.set_cons_zero, List.set_cons_succ]
      refine wpAnyH_ready (rs := [2, 7]) (by kernel_rfl) (by simp) ?_
      refine AllReadyH.cons (o := ?oia1) ?hia1 (fun K0 hK => ?_) (AllReadyH.cons (o := ?oja1) ?hja1 (fun K0 hK => ?_) AllReadyH.nil)
      case hia1 => (simp only [List.getElem?_toArray, List.getElem?_cons_succ, List.getElem?_cons_zero]; rfl)
      case hja1 => (simp only [List.getElem?_toArray, List.getElem?_cons_succ, List.getElem?_cons_zero]; rfl)
      · go_simp
        have hV1 := (Below.refl _ V).alloc (Nat.le_refl _) (.cells #[] 39)
        have hB1 := HB0.out.trans (hV1.mono HB0.out.size)
        refine hK.out _ _ (boxE_at (boxA_E hB1)) (fun hHeld2 => ?_)
        clear hK K0 hHeld
        have hHeld := hHeld2
        clear hHeld2
        try simp only [Act.put, List.setIfInBounds_toArray, List.set_cons_zero, List.set_cons_succ]
        refine wpAnyH_ready (rs := [5, 7]) (by kernel_rfl) (by simp) ?_
        refine AllReadyH.cons (o := ?oia2) ?hia2 (fun K0 hK => ?_) (AllReadyH.cons (o := ?oja2) ?hja2 (fun K0 hK => ?_) AllReadyH.nil)
        case hia2 => (simp only [List.getElem?_toArray, List.getElem?_cons_succ, List.getElem?_cons_zero]; rfl)
        case hja2 => (simp only [List.getElem?_toArray, List.getElem?_cons_succ, List.getElem?_cons_zero]; rfl)
        · refine step_append_evs rfl (.tmp 42) (.tmp 44) 24 rfl V.heap.size iE _ Try.underlying24 hiE hz0 hz1 hz2 rfl _ _ (by rfl) (But (w.heap.size + 2)) (OwnEvs.made (But (w.heap.size + 2)) V V.heap.size (Nat.le_refl _)) _ _ _ t.events HEL.out (by rfl) (HEV.out.1 _ _ hV1 (fun g hg => by injection hg with hg; dsimp only at hg; omega)) (by have := HN.out; show 0 + _ ≤ _; omega) hV1.size ?_
          intro v5 W5 σ5 e5 own5 gr5 at5
          have hV5 : Below V.heap.size V W5 := hV1.grown gr5 hV1.size (fun g hg => by injection hg with hg; dsimp only at hg; omega)
          have hB5 := HB0.out.trans (hV5.mono HB0.out.size)
          refine hK.out _ _ (boxE_at (boxA_E hB5)) (fun hHeld2 => ?_)
          clear hK K0 hHeld
          have hHeld := hHeld2
          clear hHeld2
          try simp only [Act.put, List.setIfInBounds_toArray, List.set_cons_zero, List.set_cons_succ]
          refine wpAnyH_ready (rs := [7]) (by kernel_rfl) (by simp) ?_
          refine AllReadyH.cons (o := ?oia3) ?hia3 (fun K0 hK => ?_) AllReadyH.nil
          case hia3 => (simp only [List.getElem?_toArray, List.getElem?_cons_succ, List.getElem?_cons_zero]; rfl)
          go_simp
          have hV6 := hV5.alloc hV5.size (.cells #[.int .u64 tm, .slice K q c] 39)
          have hB6 := HB0.out.trans (hV6.mono HB0.out.size)
          refine hK.out _ _ (boxE_at (boxA_E hB6)) (fun hHeld2 => ?_)
          clear hK K0 hHeld
          have hHeld := hHeld2
          clear hHeld2
          try simp only [Act.put, List.setIfInBounds_toArray, List.set_cons_zero, List.set_cons_succ]
          refine wpAnyH_ready (rs := [8]) (by kernel_rfl) (by simp) ?_
          refine AllReadyH.cons (o := ?oia4) ?hia4 (fun K0 hK => ?_) AllReadyH.nil
          case hia4 => (simp only [List.getElem?_toArray, List.getElem?_cons_succ, List.getElem?_cons_zero]; rfl)
          refine step_append_evs rfl (.tmp 45) (.tmp 47) 24 rfl V.heap.size iE _ Try.underlying24 hiE hz0 hz1 hz2 rfl _ _ (by rfl) (But (w.heap.size + 2)) (own5.below ((Below.refl _ W5).alloc (Nat.le_refl _) (.cells #[.int .u64 tm, .slice K q c] 39))) _ 1 _ [x] (by rfl) (by rfl) (HEV.out.2 _ _ W5.heap.size 39 (0, 0) hV6 (fun g hg => by have := own5.1.lt g hg; omega) hV5.size (heap_alloc_new W5 _)) (by have := HN.out; have h1 := congrArg List.length e5; rw [List.length_map, HEL.out] at h1; rw [List.nil_append, h1]; omega) hV6.size ?_
          intro v8 W8 σ8 e8 own8 gr8 at8
          have hV8 : Below V.heap.size V W8 := hV6.grown gr8 hV6.size (fun g hg => (own5.1.lt g hg).1)
          have hB8 := HB0.out.trans (hV8.mono HB0.out.size)
          refine hK.out _ _ (boxE_at (boxA_E hB8)) (fun hHeld2 => ?_)
          clear hK K0 hHeld
          have hHeld := hHeld2
          clear hHeld2
          try simp only [Act.put, List.setIfInBounds_toArray, List.set_cons_zero, List.set_cons_succ]
          obtain ⟨A8, n8, c8, ev8, htr⟩ := tr_added HD.out own8 (by rw [List.nil_append, List.map_append, e5, e8]) (by have := HVS.out; omega)
          subst ev8
          clear e5 e8
          refine wpAnyH_take (i := 9) (oi := ?tko6) (v := ?tkv6) ?tkh6 (by kernel_rfl) (by kernel_rfl) (by kernel_rfl) ?tkq6 ?tky6 hHeld ?tkr6
          case tkh6 => (simp only [List.getElem?_toArray, List.getElem?_cons_succ, List.getElem?_cons_zero]; rfl)
          case tkq6 => exact fun _ _ _ h => h
          case tky6 => exact Or.inl ⟨by rfl, by intro wSw hSw; (try dsimp only at hSw); go_simp; try with_reducible rfl⟩
          try simp only [Act.put, List.setIfInBounds_toArray, List.set_cons_zero, List.set_cons_succ]
          refine wpAnyH_ready (rs := [10]) (by kernel_rfl) (by simp) ?_
          refine AllReadyH.cons (o := ?oia5) ?hia5 (fun K0 hK => ?_) AllReadyH.nil
          case hia5 => (simp only [List.getElem?_toArray, List.getElem?_cons_succ, List.getElem?_cons_zero]; rfl)
          obtain ⟨hc, hf⟩ := fcell hB8
          have hz : w.heap.size + 2 < W8.heap.size := by have := hB8.size; rw [boxA_size] at this; omega
          go_simp
          refine hK.out _ _ (boxE_at (((boxA_E hB8).setCell (p := ⟨w.heap.size + 2, 0, none⟩) (Nat.le_refl _) _).setCell (p := ⟨w.heap.size + 2, 1, none⟩) (Nat.le_refl _) _)) (fun hHeld2 => ?_)
          clear hK K0 hHeld
          have hHeld := hHeld2
          clear hHeld2
          refine wpAnyH_take (i := 11) (oi := ?tko7) (v := ?tkv7) ?tkh7 (by kernel_rfl) (by kernel_rfl) (by kernel_rfl) ?tkq7 ?tky7 hHeld ?tkr7
          case tkh7 => (simp only [List.getElem?_toArray, List.getElem?_cons_succ, List.getElem?_cons_zero]; rfl)
          case tkq7 => exact fun _ _ _ h => h
          case tky7 => exact Or.inl ⟨by rfl, by intro wSw hSw; (try dsimp only at hSw); go_simp; try with_reducible rfl⟩
          try simp only [Act.put, List.setIfInBounds_toArray, List.set_cons_zero, List.set_cons_succ]
          refine wpAnyH_done (by kernel_rfl) ?_ _
          have hbF := boxA_two hB8 (.slice NA nn nc) (.slice A8 n8 c8)
          have hTF := htr (.slice NA nn nc) (.slice A8 n8 c8) hbF
          clear hHeld
          go_wp2
          refine bodyPost_ret (v := .tuple #[.agg #[.slice NA nn nc, .slice A8 n8 c8], .int .i64 0]) (by simp [results, Try.results22, go_sem, hc]) rfl ?_
          rw [HT.out, HX.out]
          exact ⟨_, _, _, _, _, _, rfl, hTF, hbF⟩
        · go_simp
          have hV2 := hV1.alloc hV1.size (.cells #[.int .u64 tm, .slice K q c] 39)
          have hB2 := HB0.out.trans (hV2.mono HB0.out.size)
          refine hK.out _ _ (boxE_at (boxA_E hB2)) (fun hHeld2 => ?_)
          clear hK K0 hHeld
          have hHeld := hHeld2
          clear hHeld2
          try simp only [Act.put, List.setIfInBounds_toArray, List.set_cons_zero, List.set_cons_succ]
          refine wpAnyH_ready (rs := [5]) (by kernel_rfl) (by simp) ?_
          refine AllReadyH.cons (o := ?oia6) ?hia6 (fun K0 hK => ?_) AllReadyH.nil
          case hia6 => (simp only [List.getElem?_toArray, List.getElem?_cons_succ, List.getElem?_cons_zero]; rfl)
          refine step_append_evs rfl (.tmp 42) (.tmp 44) 24 rfl V.heap.size iE _ Try.underlying24 hiE hz0 hz1 hz2 rfl _ _ (by rfl) (But (w.heap.size + 2)) ((OwnEvs.made (But (w.heap.size + 2)) V V.heap.size (Nat.le_refl _)).below ((Below.refl _ (V.alloc (.cells #[] 39))).alloc (Nat.le_refl _) (.cells #[.int .u64 tm, .slice K q c] 39))) _ _ _ t.events HEL.out (by rfl) (HEV.out.1 _ _ hV2 (fun g hg => by injection hg with hg; dsimp only at hg; omega)) (by have := HN.out; show 0 + _ ≤ _; omega) hV2.size ?_
          intro v5 W5 σ5 e5 own5 gr5 at5
          have hV5 : Below V.heap.size V W5 := hV2.grown gr5 hV2.size (fun g hg => by injection hg with hg; dsimp only at hg; omega)
          have hB5 := HB0.out.trans (hV5.mono HB0.out.size)
          have hblk : W5.heap[V.heap.size + 1]? = some (.cells #[.int .u64 tm, .slice K q c] 39) := blk_grown gr5 (by have := heap_alloc_new (V.alloc (.cells #[] 39)) (.cells #[.int .u64 tm, .slice K q c] 39); simpa using this) (fun hg => by injection hg with hg; dsimp only at hg; omega)
          refine hK.out _ _ (boxE_at (boxA_E hB5)) (fun hHeld2 => ?_)
          clear hK K0 hHeld
          have hHeld := hHeld2
          clear hHeld2
          try simp only [Act.put, List.setIfInBounds_toArray, List.set_cons_zero, List.set_cons_succ]
          refine wpAnyH_ready (rs := [8]) (by kernel_rfl) (by simp) ?_
          refine AllReadyH.cons (o := ?oia7) ?hia7 (fun K0 hK => ?_) AllReadyH.nil
          case hia7 => (simp only [List.getElem?_toArray, List.getElem?_cons_succ, List.getElem?_cons_zero]; rfl)
          refine step_append_evs rfl (.tmp 45) (.tmp 47) 24 rfl V.heap.size iE _ Try.underlying24 hiE hz0 hz1 hz2 rfl _ _ (by rfl) (But (w.heap.size + 2)) own5 _ 1 _ [x] (by rfl) (by rfl) (HEV.out.2 _ _ (V.heap.size + 1) 39 (0, 0) hV5 (fun g hg => by have h1 := own5.1.lt g hg; rcases at5 with e | e <;> (rw [e] at hg; injection hg with hg; (try dsimp only at hg); (try simp at hg); omega)) (by omega) hblk) (by have := HN.out; have h1 := congrArg List.length e5; rw [List.length_map, HEL.out] at h1; rw [List.nil_append, h1]; omega) hV5.size ?_
          intro v8 W8 σ8 e8 own8 gr8 at8
          have hV8 : Below V.heap.size V W8 := hV5.grown gr8 hV5.size (fun g hg => (own5.1.lt g hg).1)
          have hB8 := HB0.out.trans (hV8.mono HB0.out.size)
          refine hK.out _ _ (boxE_at (boxA_E hB8)) (fun hHeld2 => ?_)
          clear hK K0 hHeld
          have hHeld := hHeld2
          clear hHeld2
          try simp only [Act.put, List.setIfInBounds_toArray, List.set_cons_zero, List.set_cons_succ]
          obtain ⟨A8, n8, c8, ev8, htr⟩ := tr_added HD.out own8 (by rw [List.nil_append, List.map_append, e5, e8]) (by have := HVS.out; omega)
          subst ev8
          clear e5 e8
          refine wpAnyH_take (i := 9) (oi := ?tko8) (v := ?tkv8) ?tkh8 (by kernel_rfl) (by kernel_rfl) (by kernel_rfl) ?tkq8 ?tky8 hHeld ?tkr8
          case tkh8 => (simp only [List.getElem?_toArray, List.getElem?_cons_succ, List.getElem?_cons_zero]; rfl)
          case tkq8 => exact fun _ _ _ h => h
          case tky8 => exact Or.inl ⟨by rfl, by intro wSw hSw; (try dsimp only at hSw); go_simp; try with_reducible rfl⟩
          try simp only [Act.put, List.setIfInBounds_toArray, List.set_cons_zero, List.set_cons_succ]
          refine wpAnyH_ready (rs := [10]) (by kernel_rfl) (by simp) ?_
          refine AllReadyH.cons (o := ?oia8) ?hia8 (fun K0 hK => ?_) AllReadyH.nil
          case hia8 => (simp only [List.getElem?_toArray, List.getElem?_cons_succ, List.getElem?_cons_zero]; rfl)
          obtain ⟨hc, hf⟩ := fcell hB8
          have hz : w.heap.size + 2 < W8.heap.size := by have := hB8.size; rw [boxA_size] at this; omega
          go_simp
          refine hK.out _ _ (boxE_at (((boxA_E hB8).setCell (p := ⟨w.heap.size + 2, 0, none⟩) (Nat.le_refl _) _).setCell (p := ⟨w.heap.size + 2, 1, none⟩) (Nat.le_refl _) _)) (fun hHeld2 => ?_)
          clear hK K0 hHeld
          have hHeld := hHeld2
          clear hHeld2
          refine wpAnyH_take (i := 11) (oi := ?tko9) (v := ?tkv9) ?tkh9 (by kernel_rfl) (by kernel_rfl) (by kernel_rfl) ?tkq9 ?tky9 hHeld ?tkr9
          case tkh9 => (simp only [List.getElem?_toArray, List.getElem?_cons_succ, List.getElem?_cons_zero]; rfl)
          case tkq9 => exact fun _ _ _ h => h
          case tky9 => exact Or.inl ⟨by rfl, by intro wSw hSw; (try dsimp only at hSw); go_simp; try with_reducible rfl⟩
          try simp only [Act.put, List.setIfInBounds_toArray, List.set_cons_zero, List.set_cons_succ]
          refine wpAnyH_done (by kernel_rfl) ?_ _
          have hbF := boxA_two hB8 (.slice NA nn nc) (.slice A8 n8 c8)
          have hTF := htr (.slice NA nn nc) (.slice A8 n8 c8) hbF
          clear hHeld
          go_wp2
          refine bodyPost_ret (v := .tuple #[.agg #[.slice NA nn nc, .slice A8 n8 c8], .int .i64 0]) (by simp [results, Try.results22, go_sem, hc]) rfl ?_
          rw [HT.out, HX.out]
          exact ⟨_, _, _, _, _, _, rfl, hTF, hbF⟩
      · go_simp
        have hV1 := (Below.refl _ V).alloc (Nat.le_refl _) (.cells #[.int .u64 tm, .slice K q c] 39)
        have hB1 := HB0.out.trans (hV1.mono HB0.out.size)
        refine hK.out _ _ (boxE_at (boxA_E hB1)) (fun hHeld2 => ?_)
        clear hK K0 hHeld
        have hHeld := hHeld2
        clear hHeld2
        try simp only [Act.put, List.setIfInBounds_toArray, List.set_cons_zero, List.set_cons_succ]
        refine wpAnyH_ready (rs := [2]) (by kernel_rfl) (by simp) ?_
        refine AllReadyH.cons (o := ?oia9) ?hia9 (fun K0 hK => ?_) AllReadyH.nil
        case hia9 => (simp only [List.getElem?_toArray, List.getElem?_cons_succ, List.getElem?_cons_zero]; rfl)
        go_simp
        have hV2 := hV1.alloc hV1.size (.cells #[] 39)
        have hB2 := HB0.out.trans (hV2.mono HB0.out.size)
        refine hK.out _ _ (boxE_at (boxA_E hB2)) (fun hHeld2 => ?_)
        clear hK K0 hHeld
        have hHeld := hHeld2
        clear hHeld2
        try simp only [Act.put, List.setIfInBounds_toArray, List.set_cons_zero, List.set_cons_succ]
        refine wpAnyH_ready (rs := [5]) (by kernel_rfl) (by simp) ?_
        refine AllReadyH.cons (o := ?oia10) ?hia10 (fun K0 hK => ?_) AllReadyH.nil
        case hia10 => (simp only [List.getElem?_toArray, List.getElem?_cons_succ, List.getElem?_cons_zero]; rfl)
        have own0 : OwnEvs (But (w.heap.size + 2)) ((V.alloc (.cells #[.int .u64 tm, .slice K q c] 39)).alloc (.cells #[] 39)) V.heap.size (.slice (some ⟨V.heap.size + 1, 0, none⟩) 0 0) [] := by
          have h := OwnEvs.made (But (w.heap.size + 2)) (V.alloc (.cells #[.int .u64 tm, .slice K q c] 39)) V.heap.size hV1.size
          have e : (V.alloc (.cells #[.int .u64 tm, .slice K q c] 39)).heap.size = V.heap.size + 1 := by simp
          rwa [e] at h
        refine step_append_evs rfl (.tmp 42) (.tmp 44) 24 rfl V.heap.size iE _ Try.underlying24 hiE hz0 hz1 hz2 rfl _ _ (by rfl) (But (w.heap.size + 2)) own0 _ _ _ t.events HEL.out (by rfl) (HEV.out.1 _ _ hV2 (fun g hg => by injection hg with hg; dsimp only at hg; (try simp at hg); omega)) (by have := HN.out; show 0 + _ ≤ _; omega) hV2.size ?_
        intro v5 W5 σ5 e5 own5 gr5 at5
        have hV5 : Below V.heap.size V W5 := hV2.grown gr5 hV2.size (fun g hg => by injection hg with hg; dsimp only at hg; (try simp at hg); omega)
        have hB5 := HB0.out.trans (hV5.mono HB0.out.size)
        have hblk : W5.heap[V.heap.size]? = some (.cells #[.int .u64 tm, .slice K q c] 39) := blk_grown gr5 (blk_below ((Below.refl _ (V.alloc (.cells #[.int .u64 tm, .slice K q c] 39))).alloc (Nat.le_refl _) (.cells #[] 39)) (heap_alloc_new V _)) (fun hg => by injection hg with hg; simp at hg)
        refine hK.out _ _ (boxE_at (boxA_E hB5)) (fun hHeld2 => ?_)
        clear hK K0 hHeld
        have hHeld := hHeld2
        clear hHeld2
        try simp only [Act.put, List.setIfInBounds_toArray, List.set_cons_zero, List.set_cons_succ]
        refine wpAnyH_ready (rs := [8]) (by kernel_rfl) (by simp) ?_
        refine AllReadyH.cons (o := ?oia11) ?hia11 (fun K0 hK => ?_) AllReadyH.nil
        case hia11 => (simp only [List.getElem?_toArray, List.getElem?_cons_succ, List.getElem?_cons_zero]; rfl)
        refine step_append_evs rfl (.tmp 45) (.tmp 47) 24 rfl V.heap.size iE _ Try.underlying24 hiE hz0 hz1 hz2 rfl _ _ (by rfl) (But (w.heap.size + 2)) own5 _ 1 _ [x] (by rfl) (by rfl) (HEV.out.2 _ _ V.heap.size 39 (0, 0) hV5 (fun g hg => by have h1 := own5.1.lt g hg; rcases at5 with e | e <;> (rw [e] at hg; injection hg with hg; (try dsimp only at hg); (try simp at hg); omega)) (by omega) hblk) (by have := HN.out; have h1 := congrArg List.length e5; rw [List.length_map, HEL.out] at h1; rw [List.nil_append, h1]; omega) hV5.size ?_
        intro v8 W8 σ8 e8 own8 gr8 at8
        have hV8 : Below V.heap.size V W8 := hV5.grown gr8 hV5.size (fun g hg => (own5.1.lt g hg).1)
        have hB8 := HB0.out.trans (hV8.mono HB0.out.size)
        refine hK.out _ _ (boxE_at (boxA_E hB8)) (fun hHeld2 => ?_)
        clear hK K0 hHeld
        have hHeld := hHeld2
        clear hHeld2
        try simp only [Act.put, List.setIfInBounds_toArray, List.set_cons_zero, List.set_cons_succ]
        obtain ⟨A8, n8, c8, ev8, htr⟩ := tr_added HD.out own8 (by rw [List.nil_append, List.map_append, e5, e8]) (by have := HVS.out; omega)
        subst ev8
        clear e5 e8
        refine wpAnyH_take (i := 9) (oi := ?tko10) (v := ?tkv10) ?tkh10 (by kernel_rfl) (by kernel_rfl) (by kernel_rfl) ?tkq10 ?tky10 hHeld ?tkr10
        case tkh10 => (simp only [List.getElem?_toArray, List.getElem?_cons_succ, List.getElem?_cons_zero]; rfl)
        case tkq10 => exact fun _ _ _ h => h
        case tky10 => exact Or.inl ⟨by rfl, by intro wSw hSw; (try dsimp only at hSw); go_simp; try with_reducible rfl⟩
        try simp only [Act.put, List.setIfInBounds_toArray, List.set_cons_zero, List.set_cons_succ]
        refine wpAnyH_ready (rs := [10]) (by kernel_rfl) (by simp) ?_
        refine AllReadyH.cons (o := ?oia12) ?hia12 (fun K0 hK => ?_) AllReadyH.nil
        case hia12 => (simp only [List.getElem?_toArray, List.getElem?_cons_succ, List.getElem?_cons_zero]; rfl)
        obtain ⟨hc, hf⟩ := fcell hB8
        have hz : w.heap.size + 2 < W8.heap.size := by have := hB8.size; rw [boxA_size] at this; omega
        go_simp
        refine hK.out _ _ (boxE_at (((boxA_E hB8).setCell (p := ⟨w.heap.size + 2, 0, none⟩) (Nat.le_refl _) _).setCell (p := ⟨w.heap.size + 2, 1, none⟩) (Nat.le_refl _) _)) (fun hHeld2 => ?_)
        clear hK K0 hHeld
        have hHeld := hHeld2
        clear hHeld2
        refine wpAnyH_take (i := 11) (oi := ?tko11) (v := ?tkv11) ?tkh11 (by kernel_rfl) (by kernel_rfl) (by kernel_rfl) ?tkq11 ?tky11 hHeld ?tkr11
        case tkh11 => (simp only [List.getElem?_toArray, List.getElem?_cons_succ, List.getElem?_cons_zero]; rfl)
        case tkq11 => exact fun _ _ _ h => h
        case tky11 => exact Or.inl ⟨by rfl, by intro wSw hSw; (try dsimp only at hSw); go_simp; try with_reducible rfl⟩
        try simp only [Act.put, List.setIfInBounds_toArray, List.set_cons_zero, List.set_cons_succ]
        refine wpAnyH_done (by kernel_rfl) ?_ _
        have hbF := boxA_two hB8 (.slice NA nn nc) (.slice A8 n8 c8)
        have hTF := htr (.slice NA nn nc) (.slice A8 n8 c8) hbF
        clear hHeld
        go_wp2
        refine bodyPost_ret (v := .tuple #[.agg #[.slice NA nn nc, .slice A8 n8 c8], .int .i64 0]) (by simp [results, Try.results22, go_sem, hc]) rfl ?_
        rw [HT.out, HX.out]
        exact ⟨_, _, _, _, _, _, rfl, hTF, hbF⟩
    · have hlt := of_decide_eq_false hlate
      have h0' : (0 : Int) < (ne : Int) := by omega
      have h0d : decide ((ne : Int) > 0) = true := by simp; omega
      have h0p : 0 < ne := by omega
      rw [hel, htm] at hlt
      have hk1 : IntKind.i64.wrap ((ne : Int) - 1) = ((ne - 1 : Nat) : Int) := by rw [show (ne : Int) - 1 = ((ne - 1 : Nat) : Int) by omega]; exact IntWalk.i64_in _ (by omega)
      have hk2 : ((ne - 1 : Nat) : Int) < (ne : Int) := by omega
      have hk3 : (0 : Int) ≤ ((ne - 1 : Nat) : Int) := by omega
      obtain ⟨b, off, K2, c2, e, y0, y1, hY⟩ := h.evs.kids (k := ne - 1) (by rw [hel]; omega)
      obtain ⟨tl, htl⟩ : ∃ tl, (t.events.getD (ne - 1) noEv).time = tl := ⟨_, rfl⟩
      rw [htl] at y0 hlt
      have hlt' : decide (tm < tl) = false := decide_eq_false (fun hh => hlt ⟨by omega, hh⟩)
      have HY := Lib.hid y0
      subst e
      clear h0 h hx hM hI hmay hm htm hq hid hnn hlate y0 y1 hY htl hlt hsmall hks hn hel
      go_enter Try.func22, Try.ntmps22
      go_wp2_with (first
        | (go_at_call 28; refine (HM.out _ (boxA_at (Below.refl _ _)).2.2.2.2).mono ?_; rintro e w1 ⟨rfl, hb1⟩; obtain ⟨t0, t1, x0, x1, hbw⟩ := boxA_at hb1; obtain ⟨hc, hf⟩ := fcell hb1; have hz : w.heap.size + 2 < w1.heap.size := by have := hb1.size; rw [boxA_size] at this; omega)
        | (go_at_call 13; refine (HI.out _ hbw).mono ?_; rintro e w' ⟨rfl, rfl⟩))
      have z0 := below_cell hbw HY.out
      go_quiet (fail)
      go_wp2
      clear z0 hk1 hk2 hk3 hlt' h0p h0' h0d
      have hB0 := (below_drewN hb1 nq).drew
      refine wp_region_held_drew (S := (fun W => W.cell? ⟨w.heap.size, 0, none⟩ = some (.slice NA nn nc) ∧ W.cell? ⟨w.heap.size, 1, none⟩ = some (.slice (some ⟨b, off, none⟩) ne ec) ∧ W.cell? ⟨w.heap.size + 1, 0, none⟩ = some (.int .u64 tm) ∧ W.cell? ⟨w.heap.size + 1, 1, none⟩ = some (.slice K q c) ∧ Below (w.heap.size + 2) (boxE w NA nn nc (some ⟨b, off, none⟩) ne ec tm K q c) W)) (by kernel_rfl) (boxE_at (boxA_E hB0)) (fun hHeld => ?_)
      clear t0 t1 x0 x1 hbw hc hf hz hb1
      generalize (w'.drewN nq).drew = V at hHeld hB0 ⊢
      have hVs : w.heap.size + 3 ≤ V.heap.size := by have := hB0.size; rw [boxA_size] at this; exact this
      have HVS := Lib.hid hVs
      have HB0 := Lib.hid hB0
      have HEV := Lib.hid (add_ready HSM.out HKS.out HE.out hB0)
      rw [HTM.out, HQ.out] at HEV
      clear hVs hB0
      refine wpAnyH_take (i := 0) (oi := ?tko12) (v := ?tkv12) ?tkh12 (by kernel_rfl) (by kernel_rfl) (by kernel_rfl) ?tkq12 ?tky12 hHeld ?tkr12
      case tkh12 => (simp only [List.getElem?_toArray, List.getElem?_cons_zero]; rfl)
      case tkq12 => exact fun _ _ _ h => h
      case tky12 => exact Or.inl ⟨by rfl, by intro wSw hSw; (try dsimp only at hSw); go_simp; try with_reducible rfl⟩
      try simp only [Act.put, List.setIfInBounds_toArray, List.set_cons_zero, List.set_cons_succ]
      refine wpAnyH_take (i := 1) (oi := ?tko13) (v := ?tkv13) ?tkh13 (by kernel_rfl) (by kernel_rfl) (by kernel_rfl) ?tkq13 ?tky13 hHeld ?tkr13
      case tkh13 => (simp only [List.getElem?_toArray, List.getElem?_cons_succ, List.getElem?_cons_zero]; rfl)
      case tkq13 => exact fun _ _ _ h => h
      case tky13 => exact Or.inl ⟨by rfl, by intro wSw hSw; (try dsimp only at hSw); go_simp; try with_reducible rfl⟩
      try simp only [Act.put, List.setIfInBounds_toArray, List.set_cons_zero, List.set_cons_succ]
      refine wpAnyH_take (i := 3) (oi := ?tko14) (v := ?tkv14) ?tkh14 (by kernel_rfl) (by kernel_rfl) (by kernel_rfl) ?tkq14 ?tky14 hHeld ?tkr14
      case tkh14 => (simp only [List.getElem?_toArray, List.getElem?_cons_succ, List.getElem?_cons_zero]; rfl)
      case tkq14 => exact fun _ _ _ h => h
      case tky14 => exact Or.inl ⟨by rfl, by intro wSw hSw; (try dsimp only at hSw); go_simp; try with_reducible rfl⟩
      try simp only [Act.put, List.setIfInBounds_toArray, List.set_cons_zero, List.set_cons_succ]
      refine wpAnyH_take (i := 4) (oi := ?tko15) (v := ?tkv15) ?tkh15 (by kernel_rfl) (by kernel_rfl) (by kernel_rfl) ?tkq15 ?tky15 hHeld ?tkr15
      case tkh15 => (simp only [List.getElem?_toArray, List.getElem?_cons_succ, List.getElem?_cons_zero]; rfl)
      case tkq15 => exact fun _ _ _ h => h
      case tky15 => exact Or.inl ⟨by rfl, by intro wSw hSw; (try dsimp only at hSw); go_simp; try with_reducible rfl⟩
      try simp only [Act.put, List.setIfInBounds_toArray, List.set_cons_zero, List.set_cons_succ]
      refine wpAnyH_take (i := 6) (oi := ?tko16) (v := ?tkv16) ?tkh16 (by kernel_rfl) (by kernel_rfl) (by kernel_rfl) ?tkq16 ?tky16 hHeld ?tkr16
      case tkh16 => (simp only [List.getElem?_toArray, List.getElem?_cons_succ, List.getElem?_cons_zero]; rfl)
      case tkq16 => exact fun _ _ _ h => h
      case tky16 => exact Or.inl ⟨by rfl, by intro wSw hSw; (try dsimp only at hSw); go_simp; try with_reducible rfl⟩
      try simp only [Act.put, List.setIfInBounds_toArray, List.set_cons_zero, List.set_cons_succ]
      refine wpAnyH_ready (rs := [2, 7]) (by kernel_rfl) (by simp) ?_
      refine AllReadyH.cons (o := ?oib1) ?hib1 (fun K0 hK => ?_) (AllReadyH.cons (o := ?ojb1) ?hjb1 (fun K0 hK => ?_) AllReadyH.nil)
      case hib1 => (simp only [List.getElem?_toArray, List.getElem?_cons_succ, List.getElem?_cons_zero]; rfl)
      case hjb1 => (simp only [List.getElem?_toArray, List.getElem?_cons_succ, List.getElem?_cons_zero]; rfl)
      · go_simp
        have hV1 := (Below.refl _ V).alloc (Nat.le_refl _) (.cells #[] 39)
        have hB1 := HB0.out.trans (hV1.mono HB0.out.size)
        refine hK.out _ _ (boxE_at (boxA_E hB1)) (fun hHeld2 => ?_)
        clear hK K0 hHeld
        have hHeld := hHeld2
        clear hHeld2
        try simp only [Act.put, List.setIfInBounds_toArray, List.set_cons_zero, List.set_cons_succ]
        refine wpAnyH_ready (rs := [5, 7]) (by kernel_rfl) (by simp) ?_
        refine AllReadyH.cons (o := ?oib2) ?hib2 (fun K0 hK => ?_) (AllReadyH.cons (o := ?ojb2) ?hjb2 (fun K0 hK => ?_) AllReadyH.nil)
        case hib2 => (simp only [List.getElem?_toArray, List.getElem?_cons_succ, List.getElem?_cons_zero]; rfl)
        case hjb2 => (simp only [List.getElem?_toArray, List.getElem?_cons_succ, List.getElem?_cons_zero]; rfl)
        · refine step_append_evs rfl (.tmp 42) (.tmp 44) 24 rfl V.heap.size iE _ Try.underlying24 hiE hz0 hz1 hz2 rfl _ _ (by rfl) (But (w.heap.size + 2)) (OwnEvs.made (But (w.heap.size + 2)) V V.heap.size (Nat.le_refl _)) _ _ _ t.events HEL.out (by rfl) (HEV.out.1 _ _ hV1 (fun g hg => by injection hg with hg; dsimp only at hg; omega)) (by have := HN.out; show 0 + _ ≤ _; omega) hV1.size ?_
          intro v5 W5 σ5 e5 own5 gr5 at5
          have hV5 : Below V.heap.size V W5 := hV1.grown gr5 hV1.size (fun g hg => by injection hg with hg; dsimp only at hg; omega)
          have hB5 := HB0.out.trans (hV5.mono HB0.out.size)
          refine hK.out _ _ (boxE_at (boxA_E hB5)) (fun hHeld2 => ?_)
          clear hK K0 hHeld
          have hHeld := hHeld2
          clear hHeld2
          try simp only [Act.put, List.setIfInBounds_toArray, List.set_cons_zero, List.set_cons_succ]
          refine wpAnyH_ready (rs := [7]) (by kernel_rfl) (by simp) ?_
          refine AllReadyH.cons (o := ?oib3) ?hib3 (fun K0 hK => ?_) AllReadyH.nil
          case hib3 => (simp only [List.getElem?_toArray, List.getElem?_cons_succ, List.getElem?_cons_zero]; rfl)
          go_simp
          have hV6 := hV5.alloc hV5.size (.cells #[.int .u64 tm, .slice K q c] 39)
          have hB6 := HB0.out.trans (hV6.mono HB0.out.size)
          refine hK.out _ _ (boxE_at (boxA_E hB6)) (fun hHeld2 => ?_)
          clear hK K0 hHeld
          have hHeld := hHeld2
          clear hHeld2
          try simp only [Act.put, List.setIfInBounds_toArray, List.set_cons_zero, List.set_cons_succ]
          refine wpAnyH_ready (rs := [8]) (by kernel_rfl) (by simp) ?_
          refine AllReadyH.cons (o := ?oib4) ?hib4 (fun K0 hK => ?_) AllReadyH.nil
          case hib4 => (simp only [List.getElem?_toArray, List.getElem?_cons_succ, List.getElem?_cons_zero]; rfl)
          refine step_append_evs rfl (.tmp 45) (.tmp 47) 24 rfl V.heap.size iE _ Try.underlying24 hiE hz0 hz1 hz2 rfl _ _ (by rfl) (But (w.heap.size + 2)) (own5.below ((Below.refl _ W5).alloc (Nat.le_refl _) (.cells #[.int .u64 tm, .slice K q c] 39))) _ 1 _ [x] (by rfl) (by rfl) (HEV.out.2 _ _ W5.heap.size 39 (0, 0) hV6 (fun g hg => by have := own5.1.lt g hg; omega) hV5.size (heap_alloc_new W5 _)) (by have := HN.out; have h1 := congrArg List.length e5; rw [List.length_map, HEL.out] at h1; rw [List.nil_append, h1]; omega) hV6.size ?_
          intro v8 W8 σ8 e8 own8 gr8 at8
          have hV8 : Below V.heap.size V W8 := hV6.grown gr8 hV6.size (fun g hg => (own5.1.lt g hg).1)
          have hB8 := HB0.out.trans (hV8.mono HB0.out.size)
          refine hK.out _ _ (boxE_at (boxA_E hB8)) (fun hHeld2 => ?_)
          clear hK K0 hHeld
          have hHeld := hHeld2
          clear hHeld2
          try simp only [Act.put, List.setIfInBounds_toArray, List.set_cons_zero, List.set_cons_succ]
          obtain ⟨A8, n8, c8, ev8, htr⟩ := tr_added HD.out own8 (by rw [List.nil_append, List.map_append, e5, e8]) (by have := HVS.out; omega)
          subst ev8
          clear e5 e8
          refine wpAnyH_take (i := 9) (oi := ?tko17) (v := ?tkv17) ?tkh17 (by kernel_rfl) (by kernel_rfl) (by kernel_rfl) ?tkq17 ?tky17 hHeld ?tkr17
          case tkh17 => (simp only [List.getElem?_toArray, List.getElem?_cons_succ, List.getElem?_cons_zero]; rfl)
          case tkq17 => exact fun _ _ _ h => h
          case tky17 => exact Or.inl ⟨by rfl, by intro wSw hSw; (try dsimp only at hSw); go_simp; try with_reducible rfl⟩
          try simp only [Act.put, List.setIfInBounds_toArray, List.set_cons_zero, List.set_cons_succ]
          refine wpAnyH_ready (rs := [10]) (by kernel_rfl) (by simp) ?_
          refine AllReadyH.cons (o := ?oib5) ?hib5 (fun K0 hK => ?_) AllReadyH.nil
          case hib5 => (simp only [List.getElem?_toArray, List.getElem?_cons_succ, List.getElem?_cons_zero]; rfl)
          obtain ⟨hc, hf⟩ := fcell hB8
          have hz : w.heap.size + 2 < W8.heap.size := by have := hB8.size; rw [boxA_size] at this; omega
          go_simp
          refine hK.out _ _ (boxE_at (((boxA_E hB8).setCell (p := ⟨w.heap.size + 2, 0, none⟩) (Nat.le_refl _) _).setCell (p := ⟨w.heap.size + 2, 1, none⟩) (Nat.le_refl _) _)) (fun hHeld2 => ?_)
          clear hK K0 hHeld
          have hHeld := hHeld2
          clear hHeld2
          refine wpAnyH_take (i := 11) (oi := ?tko18) (v := ?tkv18) ?tkh18 (by kernel_rfl) (by kernel_rfl) (by kernel_rfl) ?tkq18 ?tky18 hHeld ?tkr18
          case tkh18 => (simp only [List.getElem?_toArray, List.getElem?_cons_succ, List.getElem?_cons_zero]; rfl)
          case tkq18 => exact fun _ _ _ h => h
          case tky18 => exact Or.inl ⟨by rfl, by intro wSw hSw; (try dsimp only at hSw); go_simp; try with_reducible rfl⟩
          try simp only [Act.put, List.setIfInBounds_toArray, List.set_cons_zero, List.set_cons_succ]
          refine wpAnyH_done (by kernel_rfl) ?_ _
          have hbF := boxA_two hB8 (.slice NA nn nc) (.slice A8 n8 c8)
          have hTF := htr (.slice NA nn nc) (.slice A8 n8 c8) hbF
          clear hHeld
          go_wp2
          refine bodyPost_ret (v := .tuple #[.agg #[.slice NA nn nc, .slice A8 n8 c8], .int .i64 0]) (by simp [results, Try.results22, go_sem, hc]) rfl ?_
          rw [HT.out, HX.out]
          exact ⟨_, _, _, _, _, _, rfl, hTF, hbF⟩
        · go_simp
          have hV2 := hV1.alloc hV1.size (.cells #[.int .u64 tm, .slice K q c] 39)
          have hB2 := HB0.out.trans (hV2.mono HB0.out.size)
          refine hK.out _ _ (boxE_at (boxA_E hB2)) (fun hHeld2 => ?_)
          clear hK K0 hHeld
          have hHeld := hHeld2
          clear hHeld2
          try simp only [Act.put, List.setIfInBounds_toArray, List.set_cons_zero, List.set_cons_succ]
          refine wpAnyH_ready (rs := [5]) (by kernel_rfl) (by simp) ?_
          refine AllReadyH.cons (o := ?oib6) ?hib6 (fun K0 hK => ?_) AllReadyH.nil
          case hib6 => (simp only [List.getElem?_toArray, List.getElem?_cons_succ, List.getElem?_cons_zero]; rfl)
          refine step_append_evs rfl (.tmp 42) (.tmp 44) 24 rfl V.heap.size iE _ Try.underlying24 hiE hz0 hz1 hz2 rfl _ _ (by rfl) (But (w.heap.size + 2)) ((OwnEvs.made (But (w.heap.size + 2)) V V.heap.size (Nat.le_refl _)).below ((Below.refl _ (V.alloc (.cells #[] 39))).alloc (Nat.le_refl _) (.cells #[.int .u64 tm, .slice K q c] 39))) _ _ _ t.events HEL.out (by rfl) (HEV.out.1 _ _ hV2 (fun g hg => by injection hg with hg; dsimp only at hg; omega)) (by have := HN.out; show 0 + _ ≤ _; omega) hV2.size ?_
          intro v5 W5 σ5 e5 own5 gr5 at5
          have hV5 : Below V.heap.size V W5 := hV2.grown gr5 hV2.size (fun g hg => by injection hg with hg; dsimp only at hg; omega)
          have hB5 := HB0.out.trans (hV5.mono HB0.out.size)
          have hblk : W5.heap[V.heap.size + 1]? = some (.cells #[.int .u64 tm, .slice K q c] 39) := blk_grown gr5 (by have := heap_alloc_new (V.alloc (.cells #[] 39)) (.cells #[.int .u64 tm, .slice K q c] 39); simpa using this) (fun hg => by injection hg with hg; dsimp only at hg; omega)
          refine hK.out _ _ (boxE_at (boxA_E hB5)) (fun hHeld2 => ?_)
          clear hK K0 hHeld
          have hHeld := hHeld2
          clear hHeld2
          try simp only [Act.put, List.setIfInBounds_toArray, List.set_cons_zero, List.set_cons_succ]
          refine wpAnyH_ready (rs := [8]) (by kernel_rfl) (by simp) ?_
          refine AllReadyH.cons (o := ?oib7) ?hib7 (fun K0 hK => ?_) AllReadyH.nil
          case hib7 => (simp only [List.getElem?_toArray, List.getElem?_cons_succ, List.getElem?_cons_zero]; rfl)
          refine step_append_evs rfl (.tmp 45) (.tmp 47) 24 rfl V.heap.size iE _ Try.underlying24 hiE hz0 hz1 hz2 rfl _ _ (by rfl) (But (w.heap.size + 2)) own5 _ 1 _ [x] (by rfl) (by rfl) (HEV.out.2 _ _ (V.heap.size + 1) 39 (0, 0) hV5 (fun g hg => by have h1 := own5.1.lt g hg; rcases at5 with e | e <;> (rw [e] at hg; injection hg with hg; (try dsimp only at hg); (try simp at hg); omega)) (by omega) hblk) (by have := HN.out; have h1 := congrArg List.length e5; rw [List.length_map, HEL.out] at h1; rw [List.nil_append, h1]; omega) hV5.size ?_
          intro v8 W8 σ8 e8 own8 gr8 at8
          have hV8 : Below V.heap.size V W8 := hV5.grown gr8 hV5.size (fun g hg => (own5.1.lt g hg).1)
          have hB8 := HB0.out.trans (hV8.mono HB0.out.size)
          refine hK.out _ _ (boxE_at (boxA_E hB8)) (fun hHeld2 => ?_)
          clear hK K0 hHeld
          have hHeld := hHeld2
          clear hHeld2
          try simp only [Act.put, List.setIfInBounds_toArray, List.set_cons_zero, List.set_cons_succ]
          obtain ⟨A8, n8, c8, ev8, htr⟩ := tr_added HD.out own8 (by rw [List.nil_append, List.map_append, e5, e8]) (by have := HVS.out; omega)
          subst ev8
          clear e5 e8
          refine wpAnyH_take (i := 9) (oi := ?tko19) (v := ?tkv19) ?tkh19 (by kernel_rfl) (by kernel_rfl) (by kernel_rfl) ?tkq19 ?tky19 hHeld ?tkr19
          case tkh19 => (simp only [List.getElem?_toArray, List.getElem?_cons_succ, List.getElem?_cons_zero]; rfl)
          case tkq19 => exact fun _ _ _ h => h
          case tky19 => exact Or.inl ⟨by rfl, by intro wSw hSw; (try dsimp only at hSw); go_simp; try with_reducible rfl⟩
          try simp only [Act.put, List.setIfInBounds_toArray, List.set_cons_zero, List.set_cons_succ]
          refine wpAnyH_ready (rs := [10]) (by kernel_rfl) (by simp) ?_
          refine AllReadyH.cons (o := ?oib8) ?hib8 (fun K0 hK => ?_) AllReadyH.nil
          case hib8 => (simp only [List.getElem?_toArray, List.getElem?_cons_succ, List.getElem?_cons_zero]; rfl)
          obtain ⟨hc, hf⟩ := fcell hB8
          have hz : w.heap.size + 2 < W8.heap.size := by have := hB8.size; rw [boxA_size] at this; omega
          go_simp
          refine hK.out _ _ (boxE_at (((boxA_E hB8).setCell (p := ⟨w.heap.size + 2, 0, none⟩) (Nat.le_refl _) _).setCell (p := ⟨w.heap.size + 2, 1, none⟩) (Nat.le_refl _) _)) (fun hHeld2 => ?_)
          clear hK K0 hHeld
          have hHeld := hHeld2
          clear hHeld2
          refine wpAnyH_take (i := 11) (oi := ?tko20) (v := ?tkv20) ?tkh20 (by kernel_rfl) (by kernel_rfl) (by kernel_rfl) ?tkq20 ?tky20 hHeld ?tkr20
          case tkh20 => (simp only [List.getElem?_toArray, List.getElem?_cons_succ, List.getElem?_cons_zero]; rfl)
          case tkq20 => exact fun _ _ _ h => h
          case tky20 => exact Or.inl ⟨by rfl, by intro wSw hSw; (try dsimp only at hSw); go_simp; try with_reducible rfl⟩
          try simp only [Act.put, List.setIfInBounds_toArray, List.set_cons_zero, List.set_cons_succ]
          refine wpAnyH_done (by kernel_rfl) ?_ _
          have hbF := boxA_two hB8 (.slice NA nn nc) (.slice A8 n8 c8)
          have hTF := htr (.slice NA nn nc) (.slice A8 n8 c8) hbF
          clear hHeld
          go_wp2
          refine bodyPost_ret (v := .tuple #[.agg #[.slice NA nn nc, .slice A8 n8 c8], .int .i64 0]) (by simp [results, Try.results22, go_sem, hc]) rfl ?_
          rw [HT.out, HX.out]
          exact ⟨_, _, _, _, _, _, rfl, hTF, hbF⟩
      · go_simp
        have hV1 := (Below.refl _ V).alloc (Nat.le_refl _) (.cells #[.int .u64 tm, .slice K q c] 39)
        have hB1 := HB0.out.trans (hV1.mono HB0.out.size)
        refine hK.out _ _ (boxE_at (boxA_E hB1)) (fun hHeld2 => ?_)
        clear hK K0 hHeld
        have hHeld := hHeld2
        clear hHeld2
        try simp only [Act.put, List.setIfInBounds_toArray, List.set_cons_zero, List.set_cons_succ]
        refine wpAnyH_ready (rs := [2]) (by kernel_rfl) (by simp) ?_
        refine AllReadyH.cons (o := ?oib9) ?hib9 (fun K0 hK => ?_) AllReadyH.nil
        case hib9 => (simp only [List.getElem?_toArray, List.getElem?_cons_succ, List.getElem?_cons_zero]; rfl)
        go_simp
        have hV2 := hV1.alloc hV1.size (.cells #[] 39)
        have hB2 := HB0.out.trans (hV2.mono HB0.out.size)
        refine hK.out _ _ (boxE_at (boxA_E hB2)) (fun hHeld2 => ?_)
        clear hK K0 hHeld
        have hHeld := hHeld2
        clear hHeld2
        try simp only [Act.put, List.setIfInBounds_toArray, List.set_cons_zero, List.set_cons_succ]
        refine wpAnyH_ready (rs := [5]) (by kernel_rfl) (by simp) ?_
        refine AllReadyH.cons (o := ?oib10) ?hib10 (fun K0 hK => ?_) AllReadyH.nil
        case hib10 => (simp only [List.getElem?_toArray, List.getElem?_cons_succ, List.getElem?_cons_zero]; rfl)
        have own0 : OwnEvs (But (w.heap.size + 2)) ((V.alloc (.cells #[.int .u64 tm, .slice K q c] 39)).alloc (.cells #[] 39)) V.heap.size (.slice (some ⟨V.heap.size + 1, 0, none⟩) 0 0) [] := by
          have h := OwnEvs.made (But (w.heap.size + 2)) (V.alloc (.cells #[.int .u64 tm, .slice K q c] 39)) V.heap.size hV1.size
          have e : (V.alloc (.cells #[.int .u64 tm, .slice K q c] 39)).heap.size = V.heap.size + 1 := by simp
          rwa [e] at h
        refine step_append_evs rfl (.tmp 42) (.tmp 44) 24 rfl V.heap.size iE _ Try.underlying24 hiE hz0 hz1 hz2 rfl _ _ (by rfl) (But (w.heap.size + 2)) own0 _ _ _ t.events HEL.out (by rfl) (HEV.out.1 _ _ hV2 (fun g hg => by injection hg with hg; dsimp only at hg; (try simp at hg); omega)) (by have := HN.out; show 0 + _ ≤ _; omega) hV2.size ?_
        intro v5 W5 σ5 e5 own5 gr5 at5
        have hV5 : Below V.heap.size V W5 := hV2.grown gr5 hV2.size (fun g hg => by injection hg with hg; dsimp only at hg; (try simp at hg); omega)
        have hB5 := HB0.out.trans (hV5.mono HB0.out.size)
        have hblk : W5.heap[V.heap.size]? = some (.cells #[.int .u64 tm, .slice K q c] 39) := blk_grown gr5 (blk_below ((Below.refl _ (V.alloc (.cells #[.int .u64 tm, .slice K q c] 39))).alloc (Nat.le_refl _) (.cells #[] 39)) (heap_alloc_new V _)) (fun hg => by injection hg with hg; simp at hg)
        refine hK.out _ _ (boxE_at (boxA_E hB5)) (fun hHeld2 => ?_)
        clear hK K0 hHeld
        have hHeld := hHeld2
        clear hHeld2
        try simp only [Act.put, List.setIfInBounds_toArray, List.set_cons_zero, List.set_cons_succ]
        refine wpAnyH_ready (rs := [8]) (by kernel_rfl) (by simp) ?_
        refine AllReadyH.cons (o := ?oib11) ?hib11 (fun K0 hK => ?_) AllReadyH.nil
        case hib11 => (simp only [List.getElem?_toArray, List.getElem?_cons_succ, List.getElem?_cons_zero]; rfl)
        refine step_append_evs rfl (.tmp 45) (.tmp 47) 24 rfl V.heap.size iE _ Try.underlying24 hiE hz0 hz1 hz2 rfl _ _ (by rfl) (But (w.heap.size + 2)) own5 _ 1 _ [x] (by rfl) (by rfl) (HEV.out.2 _ _ V.heap.size 39 (0, 0) hV5 (fun g hg => by have h1 := own5.1.lt g hg; rcases at5 with e | e <;> (rw [e] at hg; injection hg with hg; (try dsimp only at hg); (try simp at hg); omega)) (by omega) hblk) (by have := HN.out; have h1 := congrArg List.length e5; rw [List.length_map, HEL.out] at h1; rw [List.nil_append, h1]; omega) hV5.size ?_
        intro v8 W8 σ8 e8 own8 gr8 at8
        have hV8 : Below V.heap.size V W8 := hV5.grown gr8 hV5.size (fun g hg => (own5.1.lt g hg).1)
        have hB8 := HB0.out.trans (hV8.mono HB0.out.size)
        refine hK.out _ _ (boxE_at (boxA_E hB8)) (fun hHeld2 => ?_)
        clear hK K0 hHeld
        have hHeld := hHeld2
        clear hHeld2
        try simp only [Act.put, List.setIfInBounds_toArray, List.set_cons_zero, List.set_cons_succ]
        obtain ⟨A8, n8, c8, ev8, htr⟩ := tr_added HD.out own8 (by rw [List.nil_append, List.map_append, e5, e8]) (by have := HVS.out; omega)
        subst ev8
        clear e5 e8
        refine wpAnyH_take (i := 9) (oi := ?tko21) (v := ?tkv21) ?tkh21 (by kernel_rfl) (by kernel_rfl) (by kernel_rfl) ?tkq21 ?tky21 hHeld ?tkr21
        case tkh21 => (simp only [List.getElem?_toArray, List.getElem?_cons_succ, List.getElem?_cons_zero]; rfl)
        case tkq21 => exact fun _ _ _ h => h
        case tky21 => exact Or.inl ⟨by rfl, by intro wSw hSw; (try dsimp only at hSw); go_simp; try with_reducible rfl⟩
        try simp only [Act.put, List.setIfInBounds_toArray, List.set_cons_zero, List.set_cons_succ]
        refine wpAnyH_ready (rs := [10]) (by kernel_rfl) (by simp) ?_
        refine AllReadyH.cons (o := ?oib12) ?hib12 (fun K0 hK => ?_) AllReadyH.nil
        case hib12 => (simp only [List.getElem?_toArray, List.getElem?_cons_succ, List.getElem?_cons_zero]; rfl)
        obtain ⟨hc, hf⟩ := fcell hB8
        have hz : w.heap.size + 2 < W8.heap.size := by have := hB8.size; rw [boxA_size] at this; omega
        go_simp
        refine hK.out _ _ (boxE_at (((boxA_E hB8).setCell (p := ⟨w.heap.size + 2, 0, none⟩) (Nat.le_refl _) _).setCell (p := ⟨w.heap.size + 2, 1, none⟩) (Nat.le_refl _) _)) (fun hHeld2 => ?_)
        clear hK K0 hHeld
        have hHeld := hHeld2
        clear hHeld2
        refine wpAnyH_take (i := 11) (oi := ?tko22) (v := ?tkv22) ?tkh22 (by kernel_rfl) (by kernel_rfl) (by kernel_rfl) ?tkq22 ?tky22 hHeld ?tkr22
        case tkh22 => (simp only [List.getElem?_toArray, List.getElem?_cons_succ, List.getElem?_cons_zero]; rfl)
        case tkq22 => exact fun _ _ _ h => h
        case tky22 => exact Or.inl ⟨by rfl, by intro wSw hSw; (try dsimp only at hSw); go_simp; try with_reducible rfl⟩
        try simp only [Act.put, List.setIfInBounds_toArray, List.set_cons_zero, List.set_cons_succ]
        refine wpAnyH_done (by kernel_rfl) ?_ _
        have hbF := boxA_two hB8 (.slice NA nn nc) (.slice A8 n8 c8)
        have hTF := htr (.slice NA nn nc) (.slice A8 n8 c8) hbF
        clear hHeld
        go_wp2
        refine bodyPost_ret (v := .tuple #[.agg #[.slice NA nn nc, .slice A8 n8 c8], .int .i64 0]) (by simp [results, Try.results22, go_sem, hc]) rfl ?_
        rw [HT.out, HX.out]
        exact ⟨_, _, _, _, _, _, rfl, hTF, hbF⟩
  · have HX := Lib.hid (show addE t x = 8 by unfold addE; rw [hmay, ← hnn, hid, hlate]; rfl)
    have HT := Lib.hid (show addT t x = noTr by unfold addT; rw [HX.out]; rfl)
    obtain ⟨h0, hlt⟩ := of_decide_eq_true hlate
    have hel := h.elen
    rw [hel, htm] at hlt
    rw [hel] at h0
    have h0' : (0 : Int) < (ne : Int) := by omega
    have h0d : decide ((ne : Int) > 0) = true := by simp; omega
    have hk1 : IntKind.i64.wrap ((ne : Int) - 1) = ((ne - 1 : Nat) : Int) := by rw [show (ne : Int) - 1 = ((ne - 1 : Nat) : Int) by omega]; exact IntWalk.i64_in _ (by omega)
    have hk2 : ((ne - 1 : Nat) : Int) < (ne : Int) := by omega
    have hk3 : (0 : Int) ≤ ((ne - 1 : Nat) : Int) := by omega
    obtain ⟨b, off, K2, c2, e, y0, y1, hY⟩ := h.evs.kids (k := ne - 1) (by rw [hel]; omega)
    obtain ⟨tl, htl⟩ : ∃ tl, (t.events.getD (ne - 1) noEv).time = tl := ⟨_, rfl⟩
    rw [htl] at y0 hlt
    have HY := Lib.hid y0
    subst e
    clear h hx hM hI hmay hm htm hq hid hnn hlate y0 y1 hY htl
    go_enter Try.func22, Try.ntmps22
    go_wp2_with (first
      | (go_at_call 28; refine (HM.out _ (boxA_at (Below.refl _ _)).2.2.2.2).mono ?_; rintro e w1 ⟨rfl, hb1⟩; obtain ⟨t0, t1, x0, x1, hbw⟩ := boxA_at hb1; obtain ⟨hc, hf⟩ := fcell hb1; have hz : w.heap.size + 2 < w1.heap.size := by have := hb1.size; rw [boxA_size] at this; omega)
      | (go_at_call 13; refine (HI.out _ hbw).mono ?_; rintro e w' ⟨rfl, rfl⟩))
    have z0 := below_cell hbw HY.out
    go_quiet (fail)
    go_wp2
    refine bodyPost_ret (v := .tuple #[.agg #[.slice none 0 0, .slice none 0 0], .int .i64 8]) (by simp [results, Try.results22, go_sem, hc]) rfl ?_
    rw [HT.out, HX.out]
    exact ⟨_, _, _, _, _, _, rfl, TrOk.none _ _, boxA_two (below_drewN hb1 _) _ _⟩
end Go.Proofs.Ytlkfdnbgplkiiaa.Trace
