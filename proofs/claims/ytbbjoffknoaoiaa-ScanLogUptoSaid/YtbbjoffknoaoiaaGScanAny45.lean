/-
  The walk of the landed records (package log). By an AI agent.
-/
import Derived.Test.YtbbjoffknoaoiaaGScanAny29
import Derived.Test.YtbbjoffknoaoiaaGScanAny9
import Derived.Test.YtbbjoffknoaoiaaGScanAny13
import Derived.Deep.RegionHeld3
namespace Go.Proofs.Ytbbjoffknoaoiaa.Log
open Go.RowKit Go.Proofs.Ytbbjoffknoaoiaa.Ints Go.Proofs.Ytbbjoffknoaoiaa.Mem Go.Proofs.Ytbbjoffknoaoiaa.SumMath Go.Proofs.Ytbbjoffknoaoiaa.SumWalks Go.Proofs.Ytbbjoffknoaoiaa.Trace Go.Proofs.Ytbbjoffknoaoiaa.Record

/-- What a call that hands back events and a number leaves. -/
def GotEvents (w : World) (l : List Ev) (err : Nat) (e : Ending) (w' : World) : Prop :=
  ∃ EA ec, e = .returned (.tuple #[.slice EA l.length ec, .int .i64 (err : Nat)]) ∧ Evs (fun b => w.heap.size ≤ b) w' EA l ∧ l.length ≤ ec ∧ ec ≤ maxLen ∧ Below w.heap.size w w'
/-- What is told of what stands behind records: nothing, at their end. -/
def okE (e : Nat) : Nat := if e = 13 then 0 else e
theorem got_events {w W : World} {v : Value} {l : List SEv} {R : List Ev × Nat} {err : Nat} (hr : OwnEvs (fun b => w.heap.size ≤ b) W w.heap.size v l) (hb : Below w.heap.size w W) (hR : R = (l.map (·.1), err)) :
    ∃ EA ec, v = .slice EA l.length ec ∧ GotEvents w R.1 (okE R.2) (.returned (.tuple #[.slice EA l.length ec, .int .i64 (okE err : Nat)])) W := by
  obtain ⟨EA, ec, rfl, hev, h1, h2⟩ := hr.reads (fun b hb _ => hb)
  subst hR
  refine ⟨EA, ec, rfl, EA, ec, by rw [List.length_map], hev, by rw [List.length_map]; exact h1, h2, hb⟩
theorem recsD_end {b : List Int} {props last : Int} {p : Nat} {es : List Ev} (f : Nat) (h : b.drop p = []) : recsD b props (f + 1) p last es = (es, 13) := by
  refine recsD_err f ?_ (by decide)
  rw [h]
  rfl
/-- Records from a place on are those of the bytes from there on. -/
theorem recsD_from (b : List Int) (props : Int) (q : Nat) : ∀ (f p : Nat) (last : Int) (es : List Ev), recsD b props f (q + p) last es = recsD (b.drop q) props f p last es := by
  intro f
  induction f with
  | zero => intro p last es; rfl
  | succ f ih =>
    intro p last es
    have e : (b.drop q).drop p = b.drop (q + p) := List.drop_drop ..
    rw [recsD, recsD, e]
    split
    · rfl
    · split
      · rfl
      · rw [Nat.add_assoc, ih]

set_option maxHeartbeats 16000000 in
set_option maxRecDepth 100000 in
theorem landRecords (A : Option Addr) (n c : Nat) (zs : List Int) (props : Int) (f : Nat) (w : World) (hnc : n ≤ c) (hc : c ≤ maxLen) (hn : n ≤ 58000000) (hf : n < f) (h : Rd .u8 w A n zs) :
    Calls Try.prog 35 #[.slice A n c, .int .i64 props] w (GotEvents w (recsD zs props f 0 0 []).1 (okE (recsD zs props f 0 0 []).2)) := by
  have q63 : maxLen = 9223372036854775807 := rfl
  obtain ⟨i0, hi, hz0, hz1, hz2⟩ := info_parts infoEvent
  obtain ⟨R, hR⟩ : ∃ R, recsD zs props f 0 0 [] = R := ⟨_, rfl⟩
  have HRR := Lib.hid hR
  have HBY := Lib.hid (all_u8 h.all)
  have HD := Lib.hid h
  have HF := Lib.hid hf
  rw [hR]
  clear h hR hf
  go_enter Try.func35, Try.ntmps35
  go_wp2
  go_loopw [0, 6, 7] (fun q v lt wr => ∃ (p : Nat) (B : Option Addr) (last : Int) (l : List SEv) (f : Nat), q = .slice B (n - p) (c - p) ∧ lt = .int .u64 last ∧ p ≤ n ∧ n < p + f ∧ 14 * l.length ≤ p ∧ 0 ≤ last ∧ last ≤ 18446744073709551615 ∧ Rd .u8 w B (n - p) (zs.drop p) ∧
      OwnEvs (fun b => w.heap.size ≤ b) wr w.heap.size v l ∧ Below w.heap.size w wr ∧ Hid (recsD zs props f p last (l.map (·.1)) = R)) (fun q _ _ _ => (match q with | .slice _ m _ => m | _ => 0))
  case atStart => exact ⟨0, A, 0, [], f, rfl, rfl, Nat.zero_le _, by have := HF.out; omega, by simp, by omega, by omega, HD.out, OwnEvs.made _ w _ (Nat.le_refl _), (Below.refl _ _).alloc (Nat.le_refl _) _, HRR.out⟩
  case round =>
    clear HD HF HRR
    obtain ⟨p, B, last, l, f, rfl, rfl, hp, hf, hl14, hl0, hl1, hrd, hrow, hBr, hN⟩ := hrel
    obtain ⟨f', rfl⟩ : ∃ f', f = f' + 1 := ⟨f - 1, by omega⟩
    obtain ⟨m, hm⟩ : ∃ m, n - p = m := ⟨_, rfl⟩
    obtain ⟨d, hd⟩ : ∃ d, c - p = d := ⟨_, rfl⟩
    have hmd : m ≤ d := by omega
    have hdm : d ≤ maxLen := by omega
    rw [hm] at hrd ⊢
    rw [hd]
    by_cases hm0 : m = 0
    · subst hm0
      have e : zs.drop p = [] := List.eq_nil_of_length_eq_zero hrd.len
      obtain ⟨EA, ec, rfl, hG⟩ := got_events hrow hBr (R := R) (err := 13) (by rw [← hN.out]; exact recsD_end f' e)
      have HG := Lib.hid hG
      clear hrd hrow e hG hN
      go_wp2
      refine bodyPost_ret (v := .tuple #[.slice EA l.length ec, .int .i64 0]) (by simp [results, Try.results35, go_sem]) rfl ?_
      exact HG.out
    have hm0' : (m : Int) > 0 := by omega
    obtain ⟨b2, off2, e2, -⟩ := (hrd.below hBr).cell (by omega)
    subst e2
    have FG := landGet (some ⟨b2, off2, none⟩) m d (zs.drop p) props wr hmd hdm (hrd.below hBr)
    unfold GotGet at FG
    have hyb : ∀ z ∈ zs.drop p, 0 ≤ z ∧ z ≤ 255 := fun z hz => HBY.out z (List.mem_of_mem_drop hz)
    have hyt := ev_time hyb
    have HOK := Lib.hid (fun h => get_ok (b := zs.drop p) (p := props) h)
    have HEND := Lib.hid (fun h => err_end (b := zs.drop p) (q := propsR props) h)
    have HYL := Lib.hid hrd.len
    obtain ⟨y, hy⟩ : ∃ y, zs.drop p = y := ⟨_, rfl⟩
    have HNE := Lib.hid (fun e h he => recsD_err (b := zs) (props := props) (last := last) (es := l.map (·.1)) (p := p) (e := e) f' h he)
    have HNT := Lib.hid (fun h h2 => recsD_time (b := zs) (props := props) (last := last) (es := l.map (·.1)) (p := p) f' h h2)
    have HNN := Lib.hid (fun h h2 => recsD_next (b := zs) (props := props) (last := last) (es := l.map (·.1)) (p := p) f' h h2)
    rw [hy] at FG hyt HOK HEND HYL HNE HNT HNN hrd
    obtain ⟨x, hx⟩ : ∃ x, getE y props = x := ⟨_, rfl⟩
    obtain ⟨q, hq⟩ : ∃ q, getN y props = q := ⟨_, rfl⟩
    obtain ⟨er, her⟩ : ∃ er, errR y (propsR props) = er := ⟨_, rfl⟩
    rw [hx, hq, her] at FG
    rw [her] at HOK HEND HNE HNT HNN
    rw [hx, hq] at HOK
    have hE13 : er ≠ 13 := fun e => by
      have h1 := HEND.out e
      have h2 := HYL.out
      rw [h1] at h2
      simp at h2
      omega
    have HG := Lib.hid FG
    have HROW := Lib.hid hrow
    have HBR := Lib.hid hBr
    have HRD := Lib.hid hrd
    have HYY := Lib.hid hy
    obtain ⟨EA, ec, rfl, -, hec1, hec2⟩ := hrow.reads (fun b hb _ => hb)
    clear FG hyb hy hx hq her hrow hBr HEND hrd
    go_wp2_with fail
    refine HG.out.mono ?_
    rintro e w3 ⟨K, ck, rfl, hk, hB3, hfar⟩
    have hal4 := (Below.refl _ w3).alloc (Nat.le_refl _) (.cells #[.int .u64 x.time, .slice K x.ids.length ck] 38)
    have hx4 := Blk.new w3 #[.int .u64 x.time, .slice K x.ids.length ck] 38 [.int .u64 x.time, .slice K x.ids.length ck] rfl
    have hB34 := hB3.trans (hal4.mono hB3.size)
    have hk4 := hk.below hal4
    obtain ⟨W4, hW4⟩ : ∃ W4, w3.alloc (.cells #[.int .u64 x.time, .slice K x.ids.length ck] 38) = W4 := ⟨_, rfl⟩
    rw [hW4] at hx4 hB34 hk4
    have HX4 := Lib.hid hx4
    have HO4 := Lib.hid (HROW.out.below hB34)
    have HBR4 := Lib.hid (HBR.out.trans (hB34.mono HBR.out.size))
    have HKX := Lib.hid (show KidOk (fun b => w.heap.size ≤ b ∧ some b ≠ (Value.slice EA l.length ec).ownBlock) W4 (x, K, ck) from ⟨hk4, fun a e _ => by
      have h1 := hfar a e
      have h3 := HBR.out.size
      refine ⟨by omega, fun e2 => ?_⟩
      have := (HROW.out.1.lt a.block e2.symm).2
      omega⟩)
    have HNE3 := Lib.hid (show some w3.heap.size ≠ (Value.slice EA l.length ec).ownBlock from fun e => by
      have := (HROW.out.1.lt _ e.symm).2
      have := hB3.size
      omega)
    have x0 := hx4.cell 0 rfl
    have x1 := hx4.cell 1 rfl
    clear hal4 hB34 hk4 hk hfar hB3 HROW HBR hx4
    by_cases her0 : er = 0
    rotate_left
    · have her1 : ((er : Int) == 0) = false := by simp; omega
      obtain ⟨EA', ec', e5, hG⟩ := got_events HO4.out HBR4.out (R := R) (err := er) (by rw [← hN.out]; exact HNE.out er rfl her0)
      injection e5 with e5 _ e6
      subst e5; subst e6
      rw [show okE er = er by unfold okE; rw [if_neg hE13]] at hG
      have HG5 := Lib.hid hG
      clear hG hN
      go_wp2
      refine bodyPost_ret (v := .tuple #[.slice EA l.length ec, .int .i64 (er : Nat)]) (by simp [results, Try.results35, go_sem]) rfl ?_
      exact HG5.out
    subst her0
    obtain ⟨hxe, hqe, hq14, hqn⟩ := HOK.out rfl
    have hyl := HYL.out
    obtain ⟨t3, ht3⟩ : ∃ t3, x.time = t3 := ⟨_, rfl⟩
    have ht0 : 0 ≤ t3 ∧ t3 ≤ 18446744073709551615 := by rw [← ht3, hxe]; exact hyt
    obtain ⟨ht0, ht1⟩ := ht0
    obtain ⟨m3, hm3⟩ : ∃ m3, x.ids.length = m3 := ⟨_, rfl⟩
    have HM3 := Lib.hid hm3
    have HT3 := Lib.hid ht3
    rw [ht3] at x0 hW4
    rw [hm3] at x1 hW4
    rw [ht3, hm3]
    rw [← hxe] at HNT HNN
    rw [← hqe] at HNN
    rw [ht3] at HNT HNN
    have hq14' : 14 ≤ q := by omega
    have hqn' : q ≤ m := by omega
    clear hxe hqe hyt hq14 hqn hyl
    by_cases hlt : t3 < last
    · have hlt' : decide (t3 < last) = true := decide_eq_true hlt
      obtain ⟨EA', ec', e5, hG⟩ := got_events HO4.out HBR4.out (R := R) (err := 8) (by rw [← hN.out]; exact HNT.out rfl hlt)
      injection e5 with e5 _ e6
      subst e5; subst e6
      have HG5 := Lib.hid hG
      clear hm3 ht3 hG hN
      go_wp2
      refine bodyPost_ret (v := .tuple #[.slice EA l.length ec, .int .i64 8]) (by simp [results, Try.results35, go_sem]) rfl ?_
      exact HG5.out
    have HNX := Lib.hid (show recsD zs props f' (p + q) t3 ((l ++ [(x, K, ck)]).map (·.1)) = R by
      rw [← hN.out, HNN.out rfl (by omega), List.map_append]
      rfl)
    have hlt' : decide (t3 < last) = false := decide_eq_false hlt
    have hsl : ∀ W, (Instr.slice 22 (.slice (some ⟨b2, off2, none⟩) m d) (some (.int .i64 (q : Int))) none none).run Try.prog W = .ok (.slice (fromAddr (some ⟨b2, off2, none⟩) d q 1) (m - q) (d - q)) W := fun W => slice_from (P := Try.prog) 22 (by kernel_rfl) 1 (by kernel_rfl) (some ⟨b2, off2, none⟩) m d q hqn' W
    have hrq := rd_from (p := q) HRD.out hmd hqn' (by omega)
    obtain ⟨A7, hA7⟩ : ∃ A7, fromAddr (some ⟨b2, off2, none⟩) d q 1 = A7 := ⟨_, rfl⟩
    rw [hA7] at hsl hrq
    have HRQ := Lib.hid (show Rd .u8 w A7 (n - (p + q)) (zs.drop (p + q)) by
      rw [← HYY.out, List.drop_drop, ← hm, Nat.sub_sub] at hrq
      exact hrq)
    have hXT := HX4.out
    rw [ht3, hm3] at hXT
    have HXT := Lib.hid hXT
    have hl4 : l.length ≤ 4194303 := by omega
    clear hA7 hrq hN HNN HNT HNE HOK HX4 hXT hm3 ht3
    go_wp2_with fail
    obtain ⟨V, hV⟩ : ∃ V, V = W4.drew := ⟨_, rfl⟩
    obtain ⟨g, hg⟩ : ∃ g, w3.heap.size = g := ⟨_, rfl⟩
    rw [hg] at HXT HNE3 x0 x1 ⊢
    have HXV := Lib.hid (show Blk V g [.int .u64 t3, .slice K m3 ck] by rw [hV]; exact HXT.out.drew)
    have HOV := Lib.hid (show OwnEvs (fun b => w.heap.size ≤ b) V w.heap.size (.slice EA l.length ec) l by rw [hV]; exact HO4.out.below (Below.refl _ _).drew)
    have HKV := Lib.hid (show KidOk (fun b => w.heap.size ≤ b ∧ some b ≠ (Value.slice EA l.length ec).ownBlock) V (x, K, ck) by rw [hV]; exact HKX.out.below (Below.refl _ _).drew)
    have HBV := Lib.hid (show Below w.heap.size w V by rw [hV]; exact HBR4.out.drew)
    clear HXT HO4 HKX HBR4
    refine wp_region_held_drew (S := fun W => W.cell? ⟨g, 0, none⟩ = some (.int .u64 t3) ∧ W.cell? ⟨g, 1, none⟩ = some (.slice K m3 ck)) (by kernel_rfl) (by rw [← hV]; exact ⟨HXV.out.cell 0 rfl, HXV.out.cell 1 rfl⟩) (fun hHeld => ?_)
    rw [← hV] at hHeld ⊢
    clear hV x0 x1 hW4 hg
    have hxa := (Below.refl _ V).alloc (Nat.le_refl _) (.cells #[.int .u64 t3, .slice K m3 ck] 38)
    have hXA := HXV.out.later hxa
    refine wpAnyH_take (i := 0) (oi := ?tko1) (v := ?tkv1) ?tkh1 (by kernel_rfl) (by kernel_rfl) (by kernel_rfl) ?tkq1 ?tky1 hHeld ?tkr1
    case tkh1 => (simp only [List.getElem?_toArray, List.getElem?_cons_zero]; rfl)
    case tkq1 => exact fun _ _ _ h => h
    case tky1 => exact Or.inl ⟨by rfl, by intro wSw hSw; (try dsimp only at hSw); go_simp; try with_reducible rfl⟩
    try simp only [Act.put, List.setIfInBounds_toArray, List.set_cons_zero, List.set_cons_succ]
    refine wpAnyH_take (i := 1) (oi := ?tko2) (v := ?tkv2) ?tkh2 (by kernel_rfl) (by kernel_rfl) (by kernel_rfl) ?tkq2 ?tky2 hHeld ?tkr2
    case tkh2 => (simp only [List.getElem?_toArray, List.getElem?_cons_succ, List.getElem?_cons_zero]; rfl)
    case tkq2 => exact fun _ _ _ h => h
    case tky2 => exact Or.inl ⟨by rfl, by intro wSw hSw; (try dsimp only at hSw); go_simp; try with_reducible rfl⟩
    try simp only [Act.put, List.setIfInBounds_toArray, List.set_cons_zero, List.set_cons_succ]
    refine wpAnyH_take (i := 4) (oi := ?tko3) (v := ?tkv3) ?tkh3 (by kernel_rfl) (by kernel_rfl) (by kernel_rfl) ?tkq3 ?tky3 hHeld ?tkr3
    case tkh3 => (simp only [List.getElem?_toArray, List.getElem?_cons_succ, List.getElem?_cons_zero]; rfl)
    case tkq3 => exact fun _ _ _ h => h
    case tky3 => exact Or.inl ⟨by rfl, by intro wSw hSw; (try dsimp only at hSw); go_simp; try with_reducible rfl⟩
    try simp only [Act.put, List.setIfInBounds_toArray, List.set_cons_zero, List.set_cons_succ]
    refine wpAnyH_take (i := 5) (oi := ?tko4) (v := ?tkv4) ?tkh4 (by kernel_rfl) (by kernel_rfl) (by kernel_rfl) ?tkq4 ?tky4 hHeld ?tkr4
    case tkh4 => (simp only [List.getElem?_toArray, List.getElem?_cons_succ, List.getElem?_cons_zero]; rfl)
    case tkq4 => exact fun _ _ _ h => h
    case tky4 => exact Or.inl ⟨by rfl, by intro wSw hSw; (try dsimp only at hSw); go_simp; try with_reducible rfl⟩
    try simp only [Act.put, List.setIfInBounds_toArray, List.set_cons_zero, List.set_cons_succ]
    refine wpAnyH_take (i := 6) (oi := ?tko5) (v := ?tkv5) ?tkh5 (by kernel_rfl) (by kernel_rfl) (by kernel_rfl) ?tkq5 ?tky5 hHeld ?tkr5
    case tkh5 => (simp only [List.getElem?_toArray, List.getElem?_cons_succ, List.getElem?_cons_zero]; rfl)
    case tkq5 => exact fun _ _ _ h => h
    case tky5 => exact Or.inl ⟨by rfl, by intro wSw hSw; (try dsimp only at hSw); go_simp; try with_reducible rfl⟩
    try simp only [Act.put, List.setIfInBounds_toArray, List.set_cons_zero, List.set_cons_succ]
    refine wpAnyH_take (i := 7) (oi := ?tko6) (v := ?tkv6) ?tkh6 (by kernel_rfl) (by kernel_rfl) (by kernel_rfl) ?tkq6 ?tky6 hHeld ?tkr6
    case tkh6 => (simp only [List.getElem?_toArray, List.getElem?_cons_succ, List.getElem?_cons_zero]; rfl)
    case tkq6 => exact fun _ _ _ h => h
    case tky6 => exact Or.inl ⟨by rfl, by intro wSw hSw; (try dsimp only at hSw); go_simp; try with_reducible rfl⟩
    try simp only [Act.put, List.setIfInBounds_toArray, List.set_cons_zero, List.set_cons_succ]
    refine wpAnyH_take (i := 8) (oi := ?tko7) (v := ?tkv7) ?tkh7 (by kernel_rfl) (by kernel_rfl) (by kernel_rfl) ?tkq7 ?tky7 hHeld ?tkr7
    case tkh7 => (simp only [List.getElem?_toArray, List.getElem?_cons_succ, List.getElem?_cons_zero]; rfl)
    case tkq7 => exact fun _ _ _ h => h
    case tky7 => exact Or.inl ⟨by rfl, by intro wSw hSw; (try dsimp only at hSw); go_simp; try with_reducible rfl⟩
    try simp only [Act.put, List.setIfInBounds_toArray, List.set_cons_zero, List.set_cons_succ]
    refine wpAnyH_ready (rs := [2]) (by kernel_rfl) (by simp) ?_
    refine AllReadyH.cons (o := ?tko8) ?tkh8 (fun Kt8 hKt8 => ?_) AllReadyH.nil
    case tkh8 => (simp only [List.getElem?_toArray, List.getElem?_cons_succ, List.getElem?_cons_zero]; rfl)
    go_simp
    (skip)
    refine hKt8.out _ _ ?_ (fun hHt8 => ?_)
    · (exact ⟨hXA.cell 0 rfl, hXA.cell 1 rfl⟩)
    clear hKt8 Kt8 hHeld
    have hHeld := hHt8
    clear hHt8
    try simp only [Act.put, List.setIfInBounds_toArray, List.set_cons_zero, List.set_cons_succ]
    refine wpAnyH_ready (rs := [3]) (by kernel_rfl) (by simp) ?_
    refine AllReadyH.cons (o := ?tko9) ?tkh9 (fun Kt9 hKt9 => ?_) AllReadyH.nil
    case tkh9 => (simp only [List.getElem?_toArray, List.getElem?_cons_succ, List.getElem?_cons_zero]; rfl)
    (refine step_append_ev rfl (.tmp 31) (.tmp 33) 32 rfl w.heap.size i0 _ Try.underlying32 hi hz0 hz1 hz2 rfl (.slice EA l.length ec) l (by rfl) (fun b => w.heap.size ≤ b) (HOV.out.below hxa) (x, K, ck) (HKV.out.below hxa) V.heap.size 38 (0, 0) (by show (V.alloc _).heap[V.heap.size]? = _; rw [heap_alloc_new, ← HT3.out, ← HM3.out]; rfl) (by rfl) hl4 (le_alloc HBV.out.size) ?_; intro v6 w6 hown6 hgr6 hat6; have hX6 := hXA.grown hgr6 HNE3.out)
    refine hKt9.out _ _ ?_ (fun hHt9 => ?_)
    · (exact ⟨hX6.cell 0 rfl, hX6.cell 1 rfl⟩)
    clear hKt9 Kt9 hHeld
    have hHeld := hHt9
    clear hHt9
    try simp only [Act.put, List.setIfInBounds_toArray, List.set_cons_zero, List.set_cons_succ]
    refine wpAnyH_take (i := 9) (oi := ?tko10) (v := ?tkv10) ?tkh10 (by kernel_rfl) (by kernel_rfl) (by kernel_rfl) ?tkq10 ?tky10 hHeld ?tkr10
    case tkh10 => (simp only [List.getElem?_toArray, List.getElem?_cons_succ, List.getElem?_cons_zero]; rfl)
    case tkq10 => exact fun _ _ _ h => h
    case tky10 => exact Or.inl ⟨by rfl, by intro wSw hSw; (try dsimp only at hSw); go_simp; try with_reducible rfl⟩
    try simp only [Act.put, List.setIfInBounds_toArray, List.set_cons_zero, List.set_cons_succ]
    refine wpAnyH_take (i := 10) (oi := ?tko11) (v := ?tkv11) ?tkh11 (by kernel_rfl) (by kernel_rfl) (by kernel_rfl) ?tkq11 ?tky11 hHeld ?tkr11
    case tkh11 => (simp only [List.getElem?_toArray, List.getElem?_cons_succ, List.getElem?_cons_zero]; rfl)
    case tkq11 => exact fun _ _ _ h => h
    case tky11 => exact Or.inl ⟨by rfl, by intro wSw hSw; (try dsimp only at hSw); go_simp; try with_reducible rfl⟩
    try simp only [Act.put, List.setIfInBounds_toArray, List.set_cons_zero, List.set_cons_succ]
    refine wpAnyH_take (i := 11) (oi := ?tko12) (v := ?tkv12) ?tkh12 (by kernel_rfl) (by kernel_rfl) (by kernel_rfl) ?tkq12 ?tky12 hHeld ?tkr12
    case tkh12 => (simp only [List.getElem?_toArray, List.getElem?_cons_succ, List.getElem?_cons_zero]; rfl)
    case tkq12 => exact fun _ _ _ h => h
    case tky12 => exact Or.inl ⟨by rfl, by intro wSw hSw; (try dsimp only at hSw); go_simp; try with_reducible rfl⟩
    try simp only [Act.put, List.setIfInBounds_toArray, List.set_cons_zero]
    refine wpAnyH_done (by kernel_rfl) ?_ _
    clear hHeld
    go_wp2_with fail
    go_roundw
    case rel =>
      have e6 : (l ++ [(x, K, ck)]).length = l.length + 1 := by rw [List.length_append]; rfl
      exact ⟨p + q, A7, t3, l ++ [(x, K, ck)], f', by rw [← hm, ← hd, Nat.sub_sub, Nat.sub_sub], rfl, by omega, by omega, by rw [e6]; omega, ht0, ht1, HRQ.out, hown6,
        (HBV.out.alloc HBV.out.size _).grown hgr6 (le_alloc HBV.out.size) (fun z hz => (HOV.out.1.lt z hz).1), HNX.out⟩
    case measure => simp; omega
end Go.Proofs.Ytbbjoffknoaoiaa.Log
