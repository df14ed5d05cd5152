/-
  The walks of the landed package trace: Cut, Add. By an AI agent.
-/
import Derived.Test.YtlkfdnbgplkiiaaTraceLand3
namespace Go.Proofs.Ytlkfdnbgplkiiaa.Trace
open Go.RowKit Go.Proofs.Ytlkfdnbgplkiiaa.Ints Go.Proofs.Ytlkfdnbgplkiiaa.Mem

/-- What first hands back, stored into a box of the caller's, is the trace. -/
theorem first_tr {W : World} {B g : Nat} {vN v : Value} {σ : List SEv} {t : Tr} {S : Nat → Prop} (hN : W.ownsRow B 9 1 vN t.names.length (t.names.map strS)) (hE : OwnEvs S W B v σ) (hl : σ.map (·.1) = t.events) (hs : ∀ s ∈ t.names, s.length ≤ 16) (hg : g < B) (hS : ∀ b, S b → b ≠ g) :
    ∃ NA nn nc EA ne ec, vN = .slice NA nn nc ∧ v = .slice EA ne ec ∧ ∀ u0 u1, TrOk Any ((W.setCell ⟨g, 0, none⟩ u0).setCell ⟨g, 1, none⟩ u1) NA nn nc EA ne ec t := by
  obtain ⟨NA, nc, rfl, -⟩ := own_sliceN hN
  obtain ⟨EA, ec, rfl, -⟩ := own_sliceN hE.1
  refine ⟨NA, _, nc, EA, _, ec, rfl, rfl, fun u0 u1 => ?_⟩
  obtain ⟨-, h1, h2, h3⟩ := strs_own (row_set (k := 1) (u := u1) (row_set (k := 0) (u := u0) hN hg) hg)
  obtain ⟨A, c, e, h4, h5, h6⟩ := ((own_set (k := 1) (u := u1) (own_set (k := 0) (u := u0) hE hg hS) hg hS).mono (S' := Any) fun _ _ _ => trivial).reads fun _ _ _ => trivial
  injection e with e1 e2 e3
  subst e1; subst e3
  have hle : σ.length = t.events.length := by rw [← hl, List.length_map]
  rw [hl] at h4
  exact ⟨rfl, hle.symm, h1, fun s hs' => Nat.le_trans (hs s hs') (by decide), h4, ⟨h2, h3⟩, h5, h6⟩

theorem two_under0 {w w' : World} {o o' : Obj} (hb : Below ((w.alloc o).alloc o').heap.size ((w.alloc o).alloc o') w') : Below w.heap.size w w' := below_alloc (below_alloc hb)

set_option maxHeartbeats 4000000 in
set_option maxRecDepth 100000 in
theorem landCut (NA : Option Addr) (nn nc : Nat) (EA : Option Addr) (ne ec : Nat) (t : Tr) (i : Int) (w : World) (h : TrOk Any w NA nn nc EA ne ec t) (hs : TrSmall t) (hi : small64 i) :
    Calls Try.prog 17 #[.agg #[.slice NA nn nc, .slice EA ne ec], .int .i64 i] w (GotTr w (cutT t i)) := by
  have hm : maxLen = 9223372036854775807 := rfl
  have hni : (nn : Int) ≤ 9223372036854775807 := by have := h.ncap; omega
  have hei : (ne : Int) ≤ 9223372036854775807 := by have := h.ecap; omega
  obtain ⟨hi1, hi2⟩ := hi
  have hM := fun W (hb : Below w.heap.size w W) => landMay NA nn nc EA ne ec t W (h.below hb)
  rcases hmay : mayT t
  · have HR := Lib.hid (show cutT t i = noTr by unfold cutT; rw [hmay]; rfl)
    rw [hmay] at hM
    have HM := Lib.hid hM
    clear h hM hmay hm
    go_enter Try.func17, Try.ntmps17
    go_wp2_with (go_at_call 16; refine (HM.out _ (((Below.refl _ _).alloc (Nat.le_refl _) _).alloc (le_alloc (Nat.le_refl _)) _)).mono ?_; rintro e w1 ⟨rfl, hb1⟩; obtain ⟨hc, hf⟩ := fcell hb1; have hz : w.heap.size + 1 < w1.heap.size := by have := hb1.size; simp at this; omega)
    refine bodyPost_ret (v := .agg #[.slice none 0 0, .slice none 0 0]) (by simp [results, Try.results17, go_sem, hc]) rfl ?_
    rw [HR.out]
    exact ⟨_, _, _, _, _, _, rfl, TrOk.none _ _, below_two hb1 _ _⟩
  · obtain ⟨k, hk, hkn, hkt⟩ : ∃ k : Nat, min (max i 0) (ne : Int) = (k : Int) ∧ k ≤ ne ∧ t.events.take i.toNat = t.events.take k := by
      refine ⟨min i.toNat ne, by omega, by omega, ?_⟩
      have hl := h.elen
      rcases Nat.le_total i.toNat ne with h1 | h1
      · rw [Nat.min_eq_left h1]
      · rw [Nat.min_eq_right h1, List.take_of_length_le (by omega), List.take_of_length_le (by omega)]
    have HR := Lib.hid (show cutT t i = ⟨t.names, t.events.take k⟩ by unfold cutT; rw [hmay, if_pos rfl, hkt])
    have HF := Lib.hid (fun W (hb : Below w.heap.size w W) => landFirst NA nn nc EA ne ec k t W (h.below hb) hmay hkn (by rw [← h.elen]; exact hs.events))
    have HSZ := Lib.hid (may_sizes hmay)
    rw [hmay] at hM
    have HM := Lib.hid hM
    have hke : (k : Int) ≤ (ne : Int) := by omega
    have hk0 : (0 : Int) ≤ (k : Int) := by omega
    clear h hM hmay hm hkt hs
    go_enter Try.func17, Try.ntmps17
    go_wp2_with fail
    go_at_call 16
    refine (HM.out _ (((Below.refl _ _).alloc (Nat.le_refl _) _).alloc (le_alloc (Nat.le_refl _)) _)).mono ?_
    rintro e w1 ⟨rfl, hb1⟩
    obtain ⟨hc, hf⟩ := fcell hb1
    obtain ⟨t0, t1⟩ := boxT_at (below_two1 hb1)
    have hz : w.heap.size + 1 < w1.heap.size := by have := hb1.size; simp at this; omega
    have hw1 := two_under0 hb1
    go_wp2_with fail
    go_at_call 33
    refine (HF.out _ hw1).mono ?_
    rintro e w2 ⟨vN, v, σ, rfl, hN2, hE2, hl2, -, hb2, -⟩
    obtain ⟨NA2, nn2, nc2, EA2, ne2, ec2, rfl, rfl, hT2⟩ := first_tr (t := ⟨t.names, t.events.take k⟩) (g := w.heap.size + 1) hN2 hE2 hl2 HSZ.out (by omega) (fun b hb => by have : _ ≤ b := hb; omega)
    have hc2 := fun b o (h : b < w1.heap.size) => hb2.cell (p := ⟨b, o, none⟩) h
    have hf2 := fun b o (h : b < w1.heap.size) => hb2.frozen (p := ⟨b, o, none⟩) h
    have hz2 := hb2.size
    go_wp2
    refine bodyPost_ret (v := .agg #[.slice NA2 nn2 nc2, .slice EA2 ne2 ec2]) (by simp [results, Try.results17, go_sem, hc, hc2, hz]) rfl ?_
    rw [HR.out]
    exact ⟨_, _, _, _, _, _, rfl, hT2 _ _, ((hw1.trans (hb2.mono hw1.size)).setCell (p := ⟨w.heap.size + 1, 0, none⟩) (by show w.heap.size ≤ w.heap.size + 1; omega) _).setCell (p := ⟨w.heap.size + 1, 1, none⟩) (by show w.heap.size ≤ w.heap.size + 1; omega) _⟩

/-- The boxes of the event and of the result. -/
theorem boxA_blks {w W : World} {NA : Option Addr} {nn nc : Nat} {EA : Option Addr} {ne ec : Nat} {tm : Int} {K : Option Addr} {n c : Nat} (hb : Below (boxA w NA nn nc EA ne ec tm K n c).heap.size (boxA w NA nn nc EA ne ec tm K n c) W) :
    Blk W (w.heap.size + 1) [.int .u64 tm, .slice K n c] ∧ Blk W (w.heap.size + 2) [.slice none 0 0, .slice none 0 0] := by
  have e : (boxT w NA nn nc EA ne ec).heap.size = w.heap.size + 1 := by simp [boxT]
  have e2 : (boxE w NA nn nc EA ne ec tm K n c).heap.size = w.heap.size + 2 := by simp [boxE, boxT]
  have h0 := (Blk.new (boxT w NA nn nc EA ne ec) #[.int .u64 tm, .slice K n c] 39 _ rfl).alloc (.cells #[.slice none 0 0, .slice none 0 0] 26)
  have h1 := Blk.new (boxE w NA nn nc EA ne ec tm K n c) #[.slice none 0 0, .slice none 0 0] 26 _ rfl
  rw [e] at h0
  rw [e2] at h1
  exact ⟨h0.below hb (by rw [boxA_size]; omega), h1.below hb (by rw [boxA_size]; omega)⟩
theorem row_other {W : World} {base : Nat} {e : TypeId} {size : Nat} {v : Value} {n : Nat} {xs : List Value} {g k : Nat} {u : Value} (h : W.ownsRow base e size v n xs) (hne : v.ownBlock ≠ some g) : (W.setCell ⟨g, k, none⟩ u).ownsRow base e size v n xs :=
  h.kept (row := some g) ⟨rfl, rfl, rfl, by simp, fun i _ hne => Below.heap_setCell W ⟨g, k, none⟩ u i (fun e => hne (by rw [e]))⟩ (.inr hne)
theorem own_other {S : Nat → Prop} {W : World} {base g k : Nat} {v u : Value} {σ : List SEv} (h : OwnEvs S W base v σ) (hne : v.ownBlock ≠ some g) (hS : ∀ b, S b → b ≠ g) : OwnEvs S (W.setCell ⟨g, k, none⟩ u) base v σ :=
  h.keep (row := some g) ⟨rfl, rfl, rfl, by simp, fun i _ hne => Below.heap_setCell W ⟨g, k, none⟩ u i (fun e => hne (by rw [e]))⟩ (.inr hne) (fun b hb e => hS b hb (by injection e))
theorem late_tm (t : Tr) (x : Ev) (h : 0 ≤ x.time) : lateT t x = decide (x.time < lastTm t.events t.events.length) := by
  unfold lateT lastTm
  by_cases h0 : t.events.length = 0
  · rw [if_pos h0, decide_eq_false (by omega), decide_eq_false (by omega)]
  · rw [if_neg h0]
    apply decide_eq_decide.2
    exact ⟨fun e => e.2, fun e => ⟨by omega, e⟩⟩

set_option maxHeartbeats 16000000 in
set_option maxRecDepth 100000 in
theorem landAdd (NA : Option Addr) (nn nc : Nat) (EA : Option Addr) (ne ec : Nat) (t : Tr) (x : Ev) (K : Option Addr) (c : Nat) (w : World) (h : TrOk Any w NA nn nc EA ne ec t) (hs : TrSmall t) (hx : EvOk w x K c) (_hk : x.ids.length ≤ 1048576) :
    Calls Try.prog 21 #[.agg #[.slice NA nn nc, .slice EA ne ec], .agg #[.int .u64 x.time, .slice K x.ids.length c]] w (GotTrE w (addT t x) (addE t x)) := by
  have hm : maxLen = 9223372036854775807 := rfl
  have hni : (nn : Int) ≤ 9223372036854775807 := by have := h.ncap; omega
  have hn : ne ≤ 1048576 := by rw [← h.elen]; exact hs.events
  have hei : (ne : Int) ≤ 1048576 := by omega
  have hM := fun W (hb : Below w.heap.size w W) => landMay NA nn nc EA ne ec t W (h.below hb)
  have hI := fun W (hb : Below w.heap.size w W) => landIds K x.ids.length c (nn : Int) x.ids W (hx.2.1.below hb) (Nat.le_trans hx.2.2.1 hx.2.2.2) ⟨by omega, hni⟩
  obtain ⟨hw1, hw2⟩ := wf_u64 hx.1
  have HD := Lib.hid h
  have HE := Lib.hid hx
  obtain ⟨tm, htm⟩ : ∃ tm, x.time = tm := ⟨_, rfl⟩
  obtain ⟨q, hq⟩ : ∃ q, x.ids.length = q := ⟨_, rfl⟩
  rw [htm] at hw1 hw2 ⊢
  rw [hq] at hI ⊢
  have HTM := Lib.hid htm
  have HQ := Lib.hid hq
  rcases hmay : mayT t
  · have HX := Lib.hid (show addE t x = 1 by unfold addE; rw [hmay]; rfl)
    have HT := Lib.hid (show addT t x = noTr by unfold addT; rw [HX.out]; rfl)
    rw [hmay] at hM
    have HM := Lib.hid hM
    clear h hx hM hI hmay hm htm hq
    go_enter Try.func21, Try.ntmps21
    go_wp2_with (first
      | (go_at_call 16; refine (HM.out _ (boxA_at (Below.refl _ _)).2.2.2.2).mono ?_; rintro e w1 ⟨rfl, hb1⟩; obtain ⟨t0, t1, x0, x1, hbw⟩ := boxA_at hb1; obtain ⟨hc, hf⟩ := fcell hb1; have hz : w.heap.size + 2 < w1.heap.size := by have := hb1.size; rw [boxA_size] at this; omega)
      | fail)
    refine bodyPost_ret (v := .tuple #[.agg #[.slice none 0 0, .slice none 0 0], .int .i64 1]) (by simp [results, Try.results21, go_sem, hc]) rfl ?_
    rw [HT.out, HX.out]
    exact ⟨_, _, _, _, _, _, rfl, TrOk.none _ _, boxA_two hb1 _ _⟩
  have hnn : (nn : Int) = (t.names.length : Int) := by rw [h.nlen]
  rcases hid : idsOk x.ids (nn : Int)
  · have HX := Lib.hid (show addE t x = 9 by unfold addE; rw [hmay, ← hnn, hid]; rfl)
    have HT := Lib.hid (show addT t x = noTr by unfold addT; rw [HX.out]; rfl)
    rw [hmay] at hM
    rw [hid] at hI
    have HM := Lib.hid hM
    have HI := Lib.hid hI
    clear h hx hM hI hmay hm htm hq hid hnn
    go_enter Try.func21, Try.ntmps21
    go_wp2_with (first
      | (go_at_call 16; refine (HM.out _ (boxA_at (Below.refl _ _)).2.2.2.2).mono ?_; rintro e w1 ⟨rfl, hb1⟩; obtain ⟨t0, t1, x0, x1, hbw⟩ := boxA_at hb1; obtain ⟨hc, hf⟩ := fcell hb1; have hz : w.heap.size + 2 < w1.heap.size := by have := hb1.size; rw [boxA_size] at this; omega)
      | (go_at_call 12; refine (HI.out _ hbw).mono ?_; rintro e w' ⟨rfl, rfl⟩))
    refine bodyPost_ret (v := .tuple #[.agg #[.slice none 0 0, .slice none 0 0], .int .i64 9]) (by simp [results, Try.results21, go_sem, hc]) rfl ?_
    rw [HT.out, HX.out]
    exact ⟨_, _, _, _, _, _, rfl, TrOk.none _ _, boxA_two hb1 _ _⟩
  rw [hmay] at hM
  rw [hid] at hI
  have HM := Lib.hid hM
  have HI := Lib.hid hI
  have hlt := late_tm t x (wf_u64 hx.1).1
  rw [h.elen] at hlt
  have hEND := fun W (hb : Below w.heap.size w W) => landEnd NA nn nc EA ne ec t W (h.below hb)
  obtain ⟨L, hL⟩ : ∃ L, lastTm t.events ne = L := ⟨_, rfl⟩
  rw [hL] at hlt hEND
  have HEND := Lib.hid hEND
  have hids : x.ids.length ≤ 64 := by
    have h1 := ids_short hid
    have h2 := ((namesOk_iff _).1 ((mayT_iff t).1 hmay).1).1
    omega
  have HIS := Lib.hid hids
  have HF := Lib.hid (fun W (hb : Below w.heap.size w W) => landFirst NA nn nc EA ne ec ne t W (h.below hb) hmay (Nat.le_refl _) hn)
  have HSZ := Lib.hid (may_sizes hmay)
  have hall : t.events.take ne = t.events := List.take_of_length_le (by rw [h.elen]; exact Nat.le_refl _)
  have HALL := Lib.hid hall
  have HN := Lib.hid hn
  have HEL := Lib.hid h.elen
  obtain ⟨iE, hiE, hz0, hz1, hz2⟩ := info_parts infoEvent
  rw [htm] at hlt
  rcases hlate : lateT t x
  · have HX := Lib.hid (show addE t x = 0 by unfold addE; rw [hmay, ← hnn, hid, hlate]; rfl)
    have HT := Lib.hid (show addT t x = ⟨t.names, t.events ++ [x]⟩ by unfold addT; rw [HX.out]; rfl)
    rw [hlate] at hlt
    replace hlt := hlt.symm
    have he0 : (0 : Int) ≤ (ne : Int) := by omega
    clear h hs hx hM hI hmay hm htm hq hid hnn hlate hn hL hEND hids hall
    go_enter Try.func21, Try.ntmps21
    go_wp2_with (first
      | (go_at_call 16; refine (HM.out _ (boxA_at (Below.refl _ _)).2.2.2.2).mono ?_; rintro e w1 ⟨rfl, hb1⟩; obtain ⟨t0, t1, x0, x1, hbw⟩ := boxA_at hb1; obtain ⟨hc, hf⟩ := fcell hb1; have hz : w.heap.size + 2 < w1.heap.size := by have := hb1.size; rw [boxA_size] at this; omega)
      | (go_at_call 12; refine (HI.out _ hbw).mono ?_; rintro e w' ⟨rfl, rfl⟩))
    have hB0 := hb1.drew
    refine wp_region_held_drew (S := (fun W => W.cell? ⟨w.heap.size, 0, none⟩ = some (.slice NA nn nc) ∧ W.cell? ⟨w.heap.size, 1, none⟩ = some (.slice EA ne ec) ∧ W.cell? ⟨w.heap.size + 1, 0, none⟩ = some (.int .u64 tm) ∧ W.cell? ⟨w.heap.size + 1, 1, none⟩ = some (.slice K q c) ∧ Below (w.heap.size + 2) (boxE w NA nn nc EA ne ec tm K q c) W)) (by kernel_rfl) (boxE_at (boxA_E hB0)) (fun hHeld => ?_)
    clear t0 t1 x0 x1 hbw hc hf hz hb1
    generalize w'.drew = V at hHeld hB0 ⊢
    refine wpAnyH_take (i := 0) (oi := ?tko1) (v := ?tkv1) ?tkh1 (by kernel_rfl) (by kernel_rfl) (by kernel_rfl) ?tkq1 ?tky1 hHeld ?tkr1
    case tkh1 => (simp only [List.getElem?_toArray, List.getElem?_cons_zero]; rfl)
    case tkq1 => exact fun _ _ _ h => h
    case tky1 => exact Or.inl ⟨by rfl, by intro wSw hSw; (try dsimp only at hSw); go_simp; try with_reducible rfl⟩
    try simp only [Act.put, List.setIfInBounds_toArray, List.set_cons_zero, List.set_cons_succ]
    refine wpAnyH_take (i := 1) (oi := ?tko2) (v := ?tkv2) ?tkh2 (by kernel_rfl) (by kernel_rfl) (by kernel_rfl) ?tkq2 ?tky2 hHeld ?tkr2
    case tkh2 => (simp only [List.getElem?_toArray, List.getElem?_cons_succ, List.getElem?_cons_zero]; rfl)
    case tkq2 => exact fun _ _ _ h => h
    case tky2 => exact Or.inl ⟨by rfl, by intro wSw hSw; (try dsimp only at hSw); go_simp; try with_reducible rfl⟩
    try simp only [Act.put, List.setIfInBounds_toArray, List.set_cons_zero, List.set_cons_succ]
    refine wpAnyH_take (i := 2) (oi := ?tko3) (v := ?tkv3) ?tkh3 (by kernel_rfl) (by kernel_rfl) (by kernel_rfl) ?tkq3 ?tky3 hHeld ?tkr3
    case tkh3 => (simp only [List.getElem?_toArray, List.getElem?_cons_succ, List.getElem?_cons_zero]; rfl)
    case tkq3 => exact fun _ _ _ h => h
    case tky3 => exact Or.inl ⟨by rfl, by intro wSw hSw; (try dsimp only at hSw); go_simp; try with_reducible rfl⟩
    try simp only [Act.put, List.setIfInBounds_toArray, List.set_cons_zero, List.set_cons_succ]
    refine wpAnyH_ready (rs := [3]) (by kernel_rfl) (by simp) ?_
    refine AllReadyH.cons (o := ?tko4) ?tkh4 (fun Kt4 hKt4 => ?_) AllReadyH.nil
    case tkh4 => (simp only [List.getElem?_toArray, List.getElem?_cons_succ, List.getElem?_cons_zero]; rfl)
    go_simp
    (go_at_call 36; refine (HEND.out _ (boxA_at hB0).2.2.2.2).mono ?_; rintro e w2 ⟨rfl, hb2⟩; have hB2 := hB0.trans (hb2.mono hB0.size))
    refine hKt4.out _ _ ?_ (fun hHt4 => ?_)
    · (exact boxE_at (boxA_E hB2))
    clear hKt4 Kt4 hHeld
    have hHeld := hHt4
    clear hHt4
    try simp only [Act.put, List.setIfInBounds_toArray, List.set_cons_zero, List.set_cons_succ]
    refine wpAnyH_take (i := 4) (oi := ?tko5) (v := ?tkv5) ?tkh5 (by kernel_rfl) (by kernel_rfl) (by kernel_rfl) ?tkq5 ?tky5 hHeld ?tkr5
    case tkh5 => (simp only [List.getElem?_toArray, List.getElem?_cons_succ, List.getElem?_cons_zero]; rfl)
    case tkq5 => exact fun _ _ _ h => h
    case tky5 => exact Or.inl ⟨by rfl, by intro wSw hSw; (try dsimp only at hSw); go_simp; try with_reducible rfl⟩
    try simp only [Act.put, List.setIfInBounds_toArray, List.set_cons_zero, List.set_cons_succ]
    refine wpAnyH_take (i := 5) (oi := ?tko6) (v := ?tkv6) ?tkh6 (by kernel_rfl) (by kernel_rfl) (by kernel_rfl) ?tkq6 ?tky6 hHeld ?tkr6
    case tkh6 => (simp only [List.getElem?_toArray, List.getElem?_cons_succ, List.getElem?_cons_zero]; rfl)
    case tkq6 => exact fun _ _ _ h => h
    case tky6 => exact Or.inl ⟨by rfl, by intro wSw hSw; (try dsimp only at hSw); go_simp; try with_reducible rfl⟩
    try simp only [Act.put, List.setIfInBounds_toArray, List.set_cons_zero, List.set_cons_succ]
    refine wpAnyH_done (by kernel_rfl) ?_ _
    clear hHeld hb2 hB0
    obtain ⟨t0, t1, x0, x1, hbw⟩ := boxA_at hB2
    have hz2' : w.heap.size + 3 ≤ w2.heap.size := by have := hB2.size; rw [boxA_size] at this; exact this
    go_wp2_with fail
    go_at_call 33
    refine (HF.out _ hbw).mono ?_
    rintro e w3 ⟨vN, v, σ, rfl, hN3, hE3, hl3, hne3, hb3, hs3⟩
    obtain ⟨NA3, nc3, rfl, -⟩ := own_sliceN hN3
    obtain ⟨EA3, ec3, rfl, -⟩ := own_sliceN hE3.1
    obtain ⟨nl, hnl⟩ : ∃ nl, t.names.length = nl := ⟨_, rfl⟩
    obtain ⟨n3, hn3⟩ : ∃ n3, σ.length = n3 := ⟨_, rfl⟩
    simp only [hnl] at hN3 hne3 ⊢
    simp only [hn3] at hE3 hne3 ⊢
    go_wp2
    clear t0 t1 x0 x1
    obtain ⟨V2, hV2⟩ : ∃ V2, V2 = (w3.alloc (.cells #[.slice NA3 nl nc3, .slice EA3 n3 ec3] 26)).drew := ⟨_, rfl⟩
    have hVa : Below w3.heap.size w3 V2 := by rw [hV2]; exact ((Below.refl _ w3).alloc (Nat.le_refl _) _).drew
    have hB3 := hB2.trans (hb3.mono hB2.size)
    have hB4 := hB3.trans (hVa.mono hB3.size)
    have HROW := Lib.hid (And.intro ((hE3.mono (S' := fun b => New3 w2 b ∧ b ≠ w3.heap.size) fun b hb h => ⟨h, by omega⟩).below hVa) hl3)
    have HNM := Lib.hid (And.intro (below_row hN3 hVa) hne3)
    have HLT := Lib.hid (And.intro hE3.1.lt hN3.lt)
    have HBK := Lib.hid (show Blk V2 w3.heap.size [.slice NA3 nl nc3, .slice EA3 n3 ec3] by rw [hV2]; exact Blk.new w3 #[.slice NA3 nl nc3, .slice EA3 n3 ec3] 26 _ rfl)
    have HBX := Lib.hid (boxA_blks hB4)
    have HBW := Lib.hid (boxA_at hB4).2.2.2.2
    have HOWN := Lib.hid (landOwn x K c V2 (HE.out.below HBW.out) HIS.out)
    have HV3 := Lib.hid (show w3.heap.size < V2.heap.size from HBK.out.1)
    have HS3 := Lib.hid hs3
    rw [HTM.out, HQ.out] at HOWN
    refine Late.drew [5] (S := fun W => W.cell? ⟨w3.heap.size, 1, none⟩ = some (.slice EA3 n3 ec3) ∧ W.cell? ⟨w.heap.size + 1, 0, none⟩ = some (.int .u64 tm) ∧ W.cell? ⟨w.heap.size + 1, 1, none⟩ = some (.slice K q c)) (by kernel_rfl) (by rw [← hV2]; exact ⟨HBK.out.cell 1 rfl, HBX.out.1.cell 0 rfl, HBX.out.1.cell 1 rfl⟩) (fun hHeld => ?_)
    rw [← hV2] at hHeld ⊢
    clear hV2 hVa hB3 hB4 hs3 hN3 hE3 hl3 hne3 hb3 hB2 hbw
    refine Late.take (i := 0) (oi := ?tko7) (v := ?tkv7) ?tkh7 (by kernel_rfl) (by kernel_rfl) (by kernel_rfl) (by kernel_rfl) ?tkq7 ?tky7 hHeld ?tkr7
    case tkh7 => (simp only [List.getElem?_toArray, List.getElem?_cons_zero]; rfl)
    case tkq7 => exact fun _ _ _ h => h
    case tky7 => exact Or.inl ⟨by rfl, by intro wSw hSw; (try dsimp only at hSw); go_simp; try with_reducible rfl⟩
    try simp only [Act.put, List.setIfInBounds_toArray, List.set_cons_zero, List.set_cons_succ]
    refine Late.take (i := 1) (oi := ?tko8) (v := ?tkv8) ?tkh8 (by kernel_rfl) (by kernel_rfl) (by kernel_rfl) (by kernel_rfl) ?tkq8 ?tky8 hHeld ?tkr8
    case tkh8 => (simp only [List.getElem?_toArray, List.getElem?_cons_succ, List.getElem?_cons_zero]; rfl)
    case tkq8 => exact fun _ _ _ h => h
    case tky8 => exact Or.inl ⟨by rfl, by intro wSw hSw; (try dsimp only at hSw); go_simp; try with_reducible rfl⟩
    try simp only [Act.put, List.setIfInBounds_toArray, List.set_cons_zero, List.set_cons_succ]
    refine Late.take (i := 2) (oi := ?tko9) (v := ?tkv9) ?tkh9 (by kernel_rfl) (by kernel_rfl) (by kernel_rfl) (by kernel_rfl) ?tkq9 ?tky9 hHeld ?tkr9
    case tkh9 => (simp only [List.getElem?_toArray, List.getElem?_cons_succ, List.getElem?_cons_zero]; rfl)
    case tkq9 => exact fun _ _ _ h => h
    case tky9 => exact Or.inl ⟨by rfl, by intro wSw hSw; (try dsimp only at hSw); go_simp; try with_reducible rfl⟩
    try simp only [Act.put, List.setIfInBounds_toArray, List.set_cons_zero, List.set_cons_succ]
    refine Late.early (k := 3) (o := ?tko10) (by kernel_rfl) (by kernel_rfl) ?tkh10 (fun Kt10 hKt10 => ?_)
    case tkh10 => (simp only [List.getElem?_toArray, List.getElem?_cons_succ, List.getElem?_cons_zero]; rfl)
    go_simp
    (go_at_call 37; refine HOWN.out.mono ?_; rintro e W3 ⟨K3, c3, rfl, hx3, hb5, hk3⟩; rw [HTM.out, HQ.out]; have bk3 := HBK.out.later hb5; have bx3 := HBX.out.1.later hb5)
    refine hKt10.out _ _ ?_ (fun hHt10 => ?_)
    · (exact ⟨bk3.cell 1 rfl, bx3.cell 0 rfl, bx3.cell 1 rfl⟩)
    clear hKt10 Kt10 hHeld
    have hHeld := hHt10
    clear hHt10
    try simp only [Act.put, List.setIfInBounds_toArray, List.set_cons_zero, List.set_cons_succ]
    have bk4 := bk3.alloc (.cells #[.int .u64 tm, .slice K3 q c3] 39)
    have bx4 := bx3.alloc (.cells #[.int .u64 tm, .slice K3 q c3] 39)
    refine Late.early (k := 4) (o := ?tko11) (by kernel_rfl) (by kernel_rfl) ?tkh11 (fun Kt11 hKt11 => ?_)
    case tkh11 => (simp only [List.getElem?_toArray, List.getElem?_cons_succ, List.getElem?_cons_zero]; rfl)
    go_simp
    refine hKt11.out _ _ ?_ (fun hHt11 => ?_)
    · (exact ⟨bk4.cell 1 rfl, bx4.cell 0 rfl, bx4.cell 1 rfl⟩)
    clear hKt11 Kt11 hHeld
    have hHeld := hHt11
    clear hHt11
    try simp only [Act.put, List.setIfInBounds_toArray, List.set_cons_zero, List.set_cons_succ]
    have hV3 := HV3.out
    have hs3 := HS3.out
    have hb5s := hb5.size
    have hblk : (W3.alloc (.cells #[.int .u64 tm, .slice K3 q c3] 39)).heap[W3.heap.size]? = some (.cells #[.int .u64 x.time, .slice K3 x.ids.length c3] 39 (0, 0)) := by
      rw [HTM.out, HQ.out]
      exact heap_alloc_new W3 _
    have ki := box_evs (S := fun b => (New3 w2 b ∧ b ≠ w3.heap.size) ∧ some b ≠ (Value.slice EA3 n3 ec3).ownBlock) hblk (hx3.below ((Below.refl _ W3).alloc (Nat.le_refl _) _)) ⟨⟨by show _ ≤ _; omega, by omega⟩, fun e => by have := (HLT.out.1 _ e.symm).2; omega⟩ (fun a e _ => ⟨⟨by have := hk3 a e; show _ ≤ _; omega, by have := hk3 a e; omega⟩, fun e2 => by have := (HLT.out.1 _ e2.symm).2; have := hk3 a e; omega⟩)
    have hσ : σ.length ≤ 1048576 := by
      have h1 := congrArg List.length HROW.out.2
      rw [List.length_map, HALL.out, HEL.out] at h1
      have := HN.out
      omega
    refine Late.last (k := 5) (o := ?tko12) (by kernel_rfl) (by kernel_rfl) ?tkh12 (fun Kt12 hKt12 => ?_)
    case tkh12 => (simp only [List.getElem?_toArray, List.getElem?_cons_succ, List.getElem?_cons_zero]; rfl)
    (refine step_append_evs rfl (.tmp 34) (.tmp 37) 24 rfl (w2.heap.size + 3) iE _ Try.underlying24 hiE hz0 hz1 hz2 rfl _ _ (by rfl) (fun b => New3 w2 b ∧ b ≠ w3.heap.size) ((HROW.out.1.below hb5).below ((Below.refl _ W3).alloc (Nat.le_refl _) _)) _ 1 _ [x] (by rfl) (by rfl) ki (by omega) (Nat.le_trans (by omega) (size_one _ _)) ?_; intro v5 W5 σ5 e5 own5 gr5 at5)
    refine hKt12.out _ _ trivial (fun hHt12 => ?_)
    clear hKt12 Kt12 hHeld
    have hHeld := hHt12
    clear hHt12
    try simp only [Act.put, List.setIfInBounds_toArray, List.set_cons_zero, List.set_cons_succ]
    have hL1 := HLT.out.1
    have hL2 := HLT.out.2
    have bk5 := bk4.grown gr5 (fun e => by have := (hL1 _ e.symm).2; omega)
    have hnm5 := ((below_row HNM.out.1 hb5).alloc (.cells #[.int .u64 tm, .slice K3 q c3] 39)).kept gr5 HNM.out.2
    have hre5 := ((HBX.out.2.later hb5).alloc (.cells #[.int .u64 tm, .slice K3 q c3] 39)).grown gr5 (fun e => by have := (hL1 _ e.symm).1; omega)
    have hne5 : v5.ownBlock ≠ some w3.heap.size := by
      rcases at5 with e | e
      · rw [e]
        intro e2
        have := (hL1 _ e2).2
        omega
      · rw [e]
        intro e2
        injection e2 with e2
        simp at e2
        omega
    have hneN : (Value.slice NA3 nl nc3).ownBlock ≠ some w3.heap.size := fun e => by have := (hL2 _ e).2; omega
    have hB5 := (((HBW.out.trans (hb5.mono HBW.out.size)).alloc (Nat.le_trans HBW.out.size hb5s) (.cells #[.int .u64 tm, .slice K3 q c3] 39)).grown gr5 (Nat.le_trans HBW.out.size (Nat.le_trans hb5s (size_one _ _))) (fun z hz => by have := (hL1 z hz).1; omega))
    obtain ⟨A5, c5, ev5, -⟩ := own_sliceN own5.1
    obtain ⟨n5, hn5⟩ : ∃ n5, (σ ++ σ5).length = n5 := ⟨_, rfl⟩
    rw [hn5] at ev5
    subst ev5
    have c51 := bk5.cell 1 rfl
    have f51 := bk5.fz 1 rfl
    refine wpAnyH_take (i := 6) (oi := ?tko13) (v := ?tkv13) ?tkh13 (by kernel_rfl) (by kernel_rfl) (by kernel_rfl) ?tkq13 ?tky13 hHeld ?tkr13
    case tkh13 => (simp only [List.getElem?_toArray, List.getElem?_cons_succ, List.getElem?_cons_zero]; rfl)
    case tkq13 => exact fun _ _ _ h => h
    case tky13 => exact Or.inl ⟨by rfl, by intro wSw hSw; (try dsimp only at hSw); go_simp; try with_reducible rfl⟩
    try simp only [Act.put, List.setIfInBounds_toArray, List.set_cons_zero, List.set_cons_succ]
    refine wpAnyH_ready (rs := [7]) (by kernel_rfl) (by simp) ?_
    refine AllReadyH.cons (o := ?tko14) ?tkh14 (fun Kt14 hKt14 => ?_) AllReadyH.nil
    case tkh14 => (simp only [List.getElem?_toArray, List.getElem?_cons_succ, List.getElem?_cons_zero]; rfl)
    go_simp
    (skip)
    refine hKt14.out _ _ ?_ (fun hHt14 => ?_)
    · (trivial)
    clear hKt14 Kt14 hHeld
    have hHeld := hHt14
    clear hHt14
    try simp only [Act.put, List.setIfInBounds_toArray, List.set_cons_zero, List.set_cons_succ]
    refine wpAnyH_done (by kernel_rfl) ?_ _
    clear hHeld c51 f51
    have bk6 := bk5.set 1 (.slice A5 n5 c5) (by simp)
    have re6 := hre5.other ⟨w3.heap.size, 1, none⟩ (.slice A5 n5 c5) (by show w.heap.size + 2 ≠ w3.heap.size; omega)
    have hT := first_tr (g := w.heap.size + 2) (t := ⟨t.names, t.events ++ [x]⟩) (row_other (k := 1) (u := .slice A5 n5 c5) (by rw [← hnl] at hnm5; exact hnm5) (by rw [← hnl] at hneN; exact hneN)) (own_other (k := 1) (u := .slice A5 n5 c5) own5 hne5 (fun b hb => hb.2)) (by rw [List.map_append, e5, HROW.out.2, HALL.out]) HSZ.out (by omega) (fun b hb => by have : _ ≤ b := hb.1; omega)
    obtain ⟨NA6, nn6, nc6, EA6, ne6, ec6, ev1, ev2, hT6⟩ := hT
    injection ev1 with ea eb ec1
    injection ev2 with ed ee ef
    subst ea; subst eb; subst ec1; subst ed; subst ee; subst ef
    simp only [hnl] at hT6
    have HTF := Lib.hid hT6
    have HBF := Lib.hid (((hB5.setCell (p := ⟨w3.heap.size, 1, none⟩) (by show w.heap.size ≤ w3.heap.size; omega) (.slice A5 n5 c5)).setCell (p := ⟨w.heap.size + 2, 0, none⟩) (by show w.heap.size ≤ w.heap.size + 2; omega) (.slice NA3 nl nc3)).setCell (p := ⟨w.heap.size + 2, 1, none⟩) (by show w.heap.size ≤ w.heap.size + 2; omega) (.slice A5 n5 c5))
    have c0 := bk6.cell 0 rfl
    have c1 := bk6.cell 1 rfl
    have r0 := re6.cell 0 rfl
    have r1 := re6.cell 1 rfl
    have z0 := re6.fz 0 rfl
    have z1 := re6.fz 1 rfl
    clear hT6 hB5 bk6 re6 bk5 hre5 hnm5 hne5 hneN own5 gr5 at5 hL1 hL2 ki hblk bk3 bk4 bx3 bx4 hx3 hb5 hk3 hσ e5
    go_wp2
    refine bodyPost_ret (v := .tuple #[.agg #[.slice NA3 nl nc3, .slice A5 n5 c5], .int .i64 0]) (by simp [results, Try.results21, go_sem, r0, r1]) rfl ?_
    rw [HT.out, HX.out]
    exact ⟨_, _, _, _, _, _, rfl, HTF.out _ _, HBF.out⟩
  · have HX := Lib.hid (show addE t x = 8 by unfold addE; rw [hmay, ← hnn, hid, hlate]; rfl)
    have HT := Lib.hid (show addT t x = noTr by unfold addT; rw [HX.out]; rfl)
    rw [hlate] at hlt
    replace hlt := hlt.symm
    clear h hs hx hM hI hmay hm htm hq hid hnn hlate hn hL hEND hids hall
    go_enter Try.func21, Try.ntmps21
    go_wp2_with (first
      | (go_at_call 16; refine (HM.out _ (boxA_at (Below.refl _ _)).2.2.2.2).mono ?_; rintro e w1 ⟨rfl, hb1⟩; obtain ⟨t0, t1, x0, x1, hbw⟩ := boxA_at hb1; obtain ⟨hc, hf⟩ := fcell hb1; have hz : w.heap.size + 2 < w1.heap.size := by have := hb1.size; rw [boxA_size] at this; omega)
      | (go_at_call 12; refine (HI.out _ hbw).mono ?_; rintro e w' ⟨rfl, rfl⟩))
    have hB0 := hb1.drew
    refine wp_region_held_drew (S := (fun W => W.cell? ⟨w.heap.size, 0, none⟩ = some (.slice NA nn nc) ∧ W.cell? ⟨w.heap.size, 1, none⟩ = some (.slice EA ne ec) ∧ W.cell? ⟨w.heap.size + 1, 0, none⟩ = some (.int .u64 tm) ∧ W.cell? ⟨w.heap.size + 1, 1, none⟩ = some (.slice K q c) ∧ Below (w.heap.size + 2) (boxE w NA nn nc EA ne ec tm K q c) W)) (by kernel_rfl) (boxE_at (boxA_E hB0)) (fun hHeld => ?_)
    clear t0 t1 x0 x1 hbw hc hf hz hb1
    generalize w'.drew = V at hHeld hB0 ⊢
    refine wpAnyH_take (i := 0) (oi := ?tko15) (v := ?tkv15) ?tkh15 (by kernel_rfl) (by kernel_rfl) (by kernel_rfl) ?tkq15 ?tky15 hHeld ?tkr15
    case tkh15 => (simp only [List.getElem?_toArray, List.getElem?_cons_zero]; rfl)
    case tkq15 => exact fun _ _ _ h => h
    case tky15 => exact Or.inl ⟨by rfl, by intro wSw hSw; (try dsimp only at hSw); go_simp; try with_reducible rfl⟩
    try simp only [Act.put, List.setIfInBounds_toArray, List.set_cons_zero, List.set_cons_succ]
    refine wpAnyH_take (i := 1) (oi := ?tko16) (v := ?tkv16) ?tkh16 (by kernel_rfl) (by kernel_rfl) (by kernel_rfl) ?tkq16 ?tky16 hHeld ?tkr16
    case tkh16 => (simp only [List.getElem?_toArray, List.getElem?_cons_succ, List.getElem?_cons_zero]; rfl)
    case tkq16 => exact fun _ _ _ h => h
    case tky16 => exact Or.inl ⟨by rfl, by intro wSw hSw; (try dsimp only at hSw); go_simp; try with_reducible rfl⟩
    try simp only [Act.put, List.setIfInBounds_toArray, List.set_cons_zero, List.set_cons_succ]
    refine wpAnyH_take (i := 2) (oi := ?tko17) (v := ?tkv17) ?tkh17 (by kernel_rfl) (by kernel_rfl) (by kernel_rfl) ?tkq17 ?tky17 hHeld ?tkr17
    case tkh17 => (simp only [List.getElem?_toArray, List.getElem?_cons_succ, List.getElem?_cons_zero]; rfl)
    case tkq17 => exact fun _ _ _ h => h
    case tky17 => exact Or.inl ⟨by rfl, by intro wSw hSw; (try dsimp only at hSw); go_simp; try with_reducible rfl⟩
    try simp only [Act.put, List.setIfInBounds_toArray, List.set_cons_zero, List.set_cons_succ]
    refine wpAnyH_ready (rs := [3]) (by kernel_rfl) (by simp) ?_
    refine AllReadyH.cons (o := ?tko18) ?tkh18 (fun Kt18 hKt18 => ?_) AllReadyH.nil
    case tkh18 => (simp only [List.getElem?_toArray, List.getElem?_cons_succ, List.getElem?_cons_zero]; rfl)
    go_simp
    (go_at_call 36; refine (HEND.out _ (boxA_at hB0).2.2.2.2).mono ?_; rintro e w2 ⟨rfl, hb2⟩; have hB2 := hB0.trans (hb2.mono hB0.size))
    refine hKt18.out _ _ ?_ (fun hHt18 => ?_)
    · (exact boxE_at (boxA_E hB2))
    clear hKt18 Kt18 hHeld
    have hHeld := hHt18
    clear hHt18
    try simp only [Act.put, List.setIfInBounds_toArray, List.set_cons_zero, List.set_cons_succ]
    refine wpAnyH_take (i := 4) (oi := ?tko19) (v := ?tkv19) ?tkh19 (by kernel_rfl) (by kernel_rfl) (by kernel_rfl) ?tkq19 ?tky19 hHeld ?tkr19
    case tkh19 => (simp only [List.getElem?_toArray, List.getElem?_cons_succ, List.getElem?_cons_zero]; rfl)
    case tkq19 => exact fun _ _ _ h => h
    case tky19 => exact Or.inl ⟨by rfl, by intro wSw hSw; (try dsimp only at hSw); go_simp; try with_reducible rfl⟩
    try simp only [Act.put, List.setIfInBounds_toArray, List.set_cons_zero, List.set_cons_succ]
    refine wpAnyH_take (i := 5) (oi := ?tko20) (v := ?tkv20) ?tkh20 (by kernel_rfl) (by kernel_rfl) (by kernel_rfl) ?tkq20 ?tky20 hHeld ?tkr20
    case tkh20 => (simp only [List.getElem?_toArray, List.getElem?_cons_succ, List.getElem?_cons_zero]; rfl)
    case tkq20 => exact fun _ _ _ h => h
    case tky20 => exact Or.inl ⟨by rfl, by intro wSw hSw; (try dsimp only at hSw); go_simp; try with_reducible rfl⟩
    try simp only [Act.put, List.setIfInBounds_toArray, List.set_cons_zero, List.set_cons_succ]
    refine wpAnyH_done (by kernel_rfl) ?_ _
    clear hHeld hb2 hB0
    obtain ⟨t0, t1, x0, x1, hbw⟩ := boxA_at hB2
    obtain ⟨hc, hf⟩ := fcell hB2
    have hz : w.heap.size + 2 < w2.heap.size := by have := hB2.size; rw [boxA_size] at this; omega
    go_wp2
    refine bodyPost_ret (v := .tuple #[.agg #[.slice none 0 0, .slice none 0 0], .int .i64 8]) (by simp [results, Try.results21, go_sem, hc]) rfl ?_
    rw [HT.out, HX.out]
    exact ⟨_, _, _, _, _, _, rfl, TrOk.none _ _, boxA_two hB2 _ _⟩
end Go.Proofs.Ytlkfdnbgplkiiaa.Trace
