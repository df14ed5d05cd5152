/-
  The walk of the reference's Next (stage 13). By an AI agent.
  'append(x, s...)' of a string to a row of bytes of the call's own. By an AI agent.
-/
import Derived.Test.YtimbbfneaaglbaaGreatGHeadsPlays11
import Derived.Test.YtimbbfneaaglbaaGreatGHeadsPlays13
import Derived.Test.YtimbbfneaaglbaaGreatGHeadsPlays6
import Derived.Lib.AppendStr
namespace Go.Proofs.YtimbbfneaaglbaaGreat.Heads
open Go.RowKit Go.Proofs.YtimbbfneaaglbaaGreat.Ints Go.Proofs.YtimbbfneaaglbaaGreat.Mem Go.Proofs.YtimbbfneaaglbaaGreat.Trace Go.Proofs.YtimbbfneaaglbaaGreat.Record Go.Proofs.YtimbbfneaaglbaaGreat.Log Go.Proofs.YtimbbfneaaglbaaGreat.Src

/-- What a call leaves that hands back an event, behind a step of the pool. -/
def GotNext (x : Ev) (er : Nat) (T : World → Prop) (e : Ending) (w' : World) : Prop :=
  ∃ K c, e = .returned (.tuple #[.agg #[.int .u64 x.time, .slice K x.ids.length c], .int .i64 (er : Nat)]) ∧ EvOk w' x K c ∧ T w'
theorem Turn.box {w W : World} {o : Obj} {g : Nat} {D : Nat → Prop} {s : PS} (hD : ∀ q, D q → q < w.heap.size) (h : Turn (w.alloc o) W g D s) (u0 u1 : Value) : Turn w ((W.setCell ⟨w.heap.size, 0, none⟩ u0).setCell ⟨w.heap.size, 1, none⟩ u1) g D s := by
  obtain ⟨D', r, d, l⟩ := h
  have hsz : (w.alloc o).heap.size = w.heap.size + 1 := by simp
  have hoff : ∀ q, q ≠ w.heap.size → ((W.setCell ⟨w.heap.size, 0, none⟩ u0).setCell ⟨w.heap.size, 1, none⟩ u1).heap[q]? = W.heap[q]? := fun q hq =>
    (Below.heap_setCell _ ⟨w.heap.size, 1, none⟩ u1 q hq).trans (Below.heap_setCell _ ⟨w.heap.size, 0, none⟩ u0 q hq)
  have hs2 : ((W.setCell ⟨w.heap.size, 0, none⟩ u0).setCell ⟨w.heap.size, 1, none⟩ u1).heap.size = W.heap.size := by simp
  refine ⟨D', r.keep (fun q hq => hoff q ?_) (by rw [hs2]; exact Nat.le_refl _), fun q hq => ?_, ⟨l.os, l.tape, l.output, by rw [hs2]; have := l.size; omega, fun q hq hn => (hoff q (by omega)).trans ((l.block q (by omega) hn).trans (heap_alloc_old w o hq))⟩⟩
  · rcases d q hq with e | e
    · have := hD q e; omega
    · omega
  · rcases d q hq with e | e
    · exact .inl e
    · exact .inr (by omega)
theorem evok_of {w : World} {NA EA : Option Addr} {nn nc ne ec : Nat} {t : Tr} {S : Nat → Prop} (h : TrOk S w NA nn nc EA ne ec t) {k : Nat} (hk : k < t.events.length) : ∃ b off K c, EA = some ⟨b, off, none⟩ ∧ w.cell? ⟨b, off + k * 2, none⟩ = some (.int .u64 (t.events.getD k noEv).time) ∧ w.cell? ⟨b, off + k * 2 + 1, none⟩ = some (.slice K (t.events.getD k noEv).ids.length c) ∧ EvOk w (t.events.getD k noEv) K c ∧
    S b ∧ (∀ a, K = some a → 0 < (t.events.getD k noEv).ids.length → S a.block) := by
  obtain ⟨b, off, e, hc⟩ := h.evs (by omega)
  have hg : t.events.getD k noEv = t.events[k] := by simp [List.getD, hk]
  obtain ⟨x0, hw, K, c, x1, hK, hKc, hcK, hSb, hS⟩ := hc k _ (List.getElem?_eq_getElem hk)
  rw [hg]
  rw [show off + 2 * k = off + k * 2 by omega] at x0 x1
  exact ⟨b, off, K, c, e, x0, x1, ⟨hw, hK, hKc, hcK⟩, hSb, hS⟩
theorem evok_put {W : World} {g : Nat} {x : Ev} {K : Option Addr} {c : Nat} (h : EvOk W x K c) (hne : ∀ a, K = some a → 0 < x.ids.length → a.block ≠ g) (u0 u1 : Value) : EvOk ((W.setCell ⟨g, 0, none⟩ u0).setCell ⟨g, 1, none⟩ u1) x K c := by
  rcases Nat.eq_zero_or_pos x.ids.length with h0 | h0
  · have hr := h.2.1
    rw [h0] at hr
    have e : x.ids = [] := List.eq_nil_of_length_eq_zero h0
    exact ⟨h.1, by rw [h0, e]; exact Rd.nil _ _ _, h.2.2⟩
  · exact Scan.evok_set h (fun a e => hne a e h0) u0 u1

set_option maxHeartbeats 8000000 in
set_option maxRecDepth 100000 in
theorem refNext (w : World) (g : Nat) (D : Nat → Prop) (s : PS) (h : RP w g D s) (hok : OkP s) (hl : s.hs.length ≤ 100000) (hpk : s.peak ≤ 4611686018427387904) (id : Int) (hid : small64 id) :
    Calls Tryz.prog 49 #[.pointer (some ⟨g, 0, none⟩), .int .i64 id] w (GotNext (nextP s id).1 (nextP s id).2.1 (fun w' => Turn w w' g D (nextP s id).2.2)) := by
  have q63 : maxLen = 9223372036854775807 := rfl
  have hal := (Below.refl _ w).alloc (Nat.le_refl _) (.cells #[.int .u64 0, .slice none 0 0] 38)
  have hb0 := Blk.new w #[.int .u64 0, .slice none 0 0] 38 [.int .u64 0, .slice none 0 0] rfl
  have hDL := h.lt
  have h0 := h.below hal
  obtain ⟨w0, hw0⟩ : ∃ w0, w.alloc (.cells #[.int .u64 0, .slice none 0 0] 38) = w0 := ⟨_, rfl⟩
  have HBX := Lib.hid (fun W s' (ht : Turn w0 W g D s') u0 u1 => Turn.box (o := .cells #[.int .u64 0, .slice none 0 0] 38) hDL (by rw [hw0]; exact ht) u0 u1)
  rw [hw0] at hb0 h0
  have HH := Lib.hid (refHas w0 g D s h0 id hid)
  have HP := Lib.hid h0
  have HB0 := Lib.hid hb0
  have r0 := hb0.cell 0 rfl
  have r1 := hb0.cell 1 rfl
  have q0 := hb0.fz 0 rfl
  have q1 := hb0.fz 1 rfl
  have hsz0 : w.heap.size < w0.heap.size := hb0.1
  obtain ⟨o, ho⟩ : ∃ o, headP s.hs id = o := ⟨_, rfl⟩
  rw [ho] at HH
  cases o with
  | none =>
    have HE := Lib.hid (show nextP s id = (noEv, 11, s) by unfold nextP; rw [ho])
    have u := HB0.out.set 0 (.int .u64 0) (by simp)
    have u0 := u.cell 0 rfl
    have u1 := (u.set 1 (.slice none 0 0) (by simp)).cell 1 rfl
    clear u h h0 ho hid hal hb0
    go_enter Tryz.func49, Tryz.ntmps49
    go_wp2_with fail
    refine HH.out.mono ?_
    rintro e w' ⟨rfl, rfl⟩
    go_wp2_with fail
    refine bodyPost_ret (v := .tuple #[.agg #[.int .u64 0, .slice none 0 0], .int .i64 11]) (by simp [results, Tryz.results49, go_sem, u0, u1]) rfl ?_
    rw [HE.out]
    exact ⟨none, 0, rfl, no_ok _, HBX.out _ _ (Turn.refl HP.out) _ _⟩
  | some k =>
    obtain ⟨i, g1, c1, g2, c2, ats, rfl, ha⟩ := h0.head ho
    obtain ⟨NA, nn, nc, EA, ne, ec, e1, e2, -⟩ := ha.rq.ex
    have x1 := e1.cell 1 rfl
    have x2 := e1.cell 2 rfl
    have x5 := ha.x5
    have y2 := ha.y2
    have hlt : (i : Int) < (s.hs.length : Int) := by have := ha.lt; omega
    have hle := ha.c2le
    have hel := e2.elen
    have hec := e2.ecap
    have hkn := hok.at_ _ _ ha.at_
    rw [hel] at hkn
    have HA := Lib.hid ha
    have HOK := Lib.hid hok
    have hdr := (Below.refl w0.heap.size w0).drew
    have hbd := hb0.later hdr
    have hpd := h0.below hdr
    have had : HeadAt w0.drew g D s k i g1 c1 g2 c2 ats := ⟨ha.lt, ha.at_, ha.c1le, ha.c2le, ha.rq.below hdr, ha.len, ha.all, ha.x4, ha.x5, ha.y1, ha.y2, ha.z1, ha.z2⟩
    obtain ⟨V, hV⟩ : ∃ V, w0.drew = V := ⟨_, rfl⟩
    rw [hV] at hbd hpd had
    have HLV := Lib.hid (show Left D w0 V by rw [← hV]; exact Left.of_below hdr)
    have HBV := Lib.hid hbd
    have HPV := Lib.hid hpd
    have HAV := Lib.hid had
    clear h h0 ha hid hok e1 e2 hal hb0 hdr hbd hpd had
    go_enter Tryz.func49, Tryz.ntmps49
    go_wp2_with fail
    refine HH.out.mono ?_
    rintro e w0 ⟨rfl, rfl⟩
    go_wp2_with fail
    refine wp_region_held_drew (S := fun W => W.cell? ⟨g, 5, none⟩ = some (.slice (some ⟨g2, 0, none⟩) s.hs.length c2) ∧ W.cell? ⟨g2, i, none⟩ = some (.int .i64 (k : Int)) ∧ W.cell? ⟨g, 1, none⟩ = some (.slice EA ne ec)) (by kernel_rfl) (by exact ⟨x5, y2, x1⟩) (fun hHeld => ?_)
    rw [hV] at hHeld ⊢
    refine wpAnyH_take (i := 0) (oi := ?tko1) (v := ?tkv1) ?tkh1 (by kernel_rfl) (by kernel_rfl) (by kernel_rfl) ?tkq1 ?tky1 hHeld ?tkr1
    case tkh1 => (simp only [List.getElem?_toArray, List.getElem?_cons_zero]; rfl)
    case tkq1 => exact fun _ _ _ h => h
    case tky1 => exact Or.inl ⟨by rfl, by intro wSw hSw; (try dsimp only at hSw); go_simp; try with_reducible rfl⟩
    try simp only [Act.put, List.setIfInBounds_toArray, List.set_cons_zero, List.set_cons_succ]
    refine wpAnyH_take (i := 1) (oi := ?tko2) (v := ?tkv2) ?tkh2 (by kernel_rfl) (by kernel_rfl) (by kernel_rfl) ?tkq2 ?tky2 hHeld ?tkr2
    case tkh2 => (simp only [List.getElem?_toArray, List.getElem?_cons_succ, List.getElem?_cons_zero]; rfl)
    case tkq2 => exact fun _ _ _ h => h
    case tky2 => exact Or.inl ⟨by rfl, by intro wSw hSw; (try dsimp only at hSw); go_simp; try with_reducible rfl⟩
    try simp only [Act.put, List.setIfInBounds_toArray, List.set_cons_zero, List.set_cons_succ]
    refine wpAnyH_take (i := 2) (oi := ?tko3) (v := ?tkv3) ?tkh3 (by kernel_rfl) (by kernel_rfl) (by kernel_rfl) ?tkq3 ?tky3 hHeld ?tkr3
    case tkh3 => (simp only [List.getElem?_toArray, List.getElem?_cons_succ, List.getElem?_cons_zero]; rfl)
    case tkq3 => exact fun _ _ _ h => h
    case tky3 => exact Or.inl ⟨by rfl, by intro wSw hSw; (try dsimp only at hSw); go_simp; try with_reducible rfl⟩
    try simp only [Act.put, List.setIfInBounds_toArray, List.set_cons_zero, List.set_cons_succ]
    refine wpAnyH_take (i := 3) (oi := ?tko4) (v := ?tkv4) ?tkh4 (by kernel_rfl) (by kernel_rfl) (by kernel_rfl) ?tkq4 ?tky4 hHeld ?tkr4
    case tkh4 => (simp only [List.getElem?_toArray, List.getElem?_cons_succ, List.getElem?_cons_zero]; rfl)
    case tkq4 => exact fun _ _ _ h => h
    case tky4 => exact Or.inl ⟨by rfl, by intro wSw hSw; (try dsimp only at hSw); go_simp; try with_reducible rfl⟩
    try simp only [Act.put, List.setIfInBounds_toArray, List.set_cons_zero, List.set_cons_succ]
    refine wpAnyH_take (i := 4) (oi := ?tko5) (v := ?tkv5) ?tkh5 (by kernel_rfl) (by kernel_rfl) (by kernel_rfl) ?tkq5 ?tky5 hHeld ?tkr5
    case tkh5 => (simp only [List.getElem?_toArray, List.getElem?_cons_succ, List.getElem?_cons_zero]; rfl)
    case tkq5 => exact fun _ _ _ h => h
    case tky5 => exact Or.inl ⟨by rfl, by intro wSw hSw; (try dsimp only at hSw); go_simp; try with_reducible rfl⟩
    try simp only [Act.put, List.setIfInBounds_toArray, List.set_cons_zero, List.set_cons_succ]
    refine wpAnyH_take (i := 5) (oi := ?tko6) (v := ?tkv6) ?tkh6 (by kernel_rfl) (by kernel_rfl) (by kernel_rfl) ?tkq6 ?tky6 hHeld ?tkr6
    case tkh6 => (simp only [List.getElem?_toArray, List.getElem?_cons_succ, List.getElem?_cons_zero]; rfl)
    case tkq6 => exact fun _ _ _ h => h
    case tky6 => exact Or.inl ⟨by rfl, by intro wSw hSw; (try dsimp only at hSw); go_simp; try with_reducible rfl⟩
    try simp only [Act.put, List.setIfInBounds_toArray, List.set_cons_zero, List.set_cons_succ]
    refine wpAnyH_take (i := 6) (oi := ?tko7) (v := ?tkv7) ?tkh7 (by kernel_rfl) (by kernel_rfl) (by kernel_rfl) ?tkq7 ?tky7 hHeld ?tkr7
    case tkh7 => (simp only [List.getElem?_toArray, List.getElem?_cons_succ, List.getElem?_cons_zero]; rfl)
    case tkq7 => exact fun _ _ _ h => h
    case tky7 => exact Or.inl ⟨by rfl, by intro wSw hSw; (try dsimp only at hSw); go_simp; try with_reducible rfl⟩
    try simp only [Act.put, List.setIfInBounds_toArray, List.set_cons_zero, List.set_cons_succ]
    refine wpAnyH_take (i := 7) (oi := ?tko8) (v := ?tkv8) ?tkh8 (by kernel_rfl) (by kernel_rfl) (by kernel_rfl) ?tkq8 ?tky8 hHeld ?tkr8
    case tkh8 => (simp only [List.getElem?_toArray, List.getElem?_cons_succ, List.getElem?_cons_zero]; rfl)
    case tkq8 => exact fun _ _ _ h => h
    case tky8 => exact Or.inl ⟨by rfl, by intro wSw hSw; (try dsimp only at hSw); go_simp; try with_reducible rfl⟩
    try simp only [Act.put, List.setIfInBounds_toArray, List.set_cons_zero, List.set_cons_succ]
    refine wpAnyH_take (i := 8) (oi := ?tko9) (v := ?tkv9) ?tkh9 (by kernel_rfl) (by kernel_rfl) (by kernel_rfl) ?tkq9 ?tky9 hHeld ?tkr9
    case tkh9 => (simp only [List.getElem?_toArray, List.getElem?_cons_succ, List.getElem?_cons_zero]; rfl)
    case tkq9 => exact fun _ _ _ h => h
    case tky9 => exact Or.inl ⟨by rfl, by intro wSw hSw; (try dsimp only at hSw); go_simp; try with_reducible rfl⟩
    try simp only [Act.put, List.setIfInBounds_toArray, List.set_cons_zero, List.set_cons_succ]
    refine wpAnyH_take (i := 9) (oi := ?tko10) (v := ?tkv10) ?tkh10 (by kernel_rfl) (by kernel_rfl) (by kernel_rfl) ?tkq10 ?tky10 hHeld ?tkr10
    case tkh10 => (simp only [List.getElem?_toArray, List.getElem?_cons_succ, List.getElem?_cons_zero]; rfl)
    case tkq10 => exact fun _ _ _ h => h
    case tky10 => exact Or.inl ⟨by rfl, by intro wSw hSw; (try dsimp only at hSw); go_simp; try with_reducible rfl⟩
    try simp only [Act.put, List.setIfInBounds_toArray, List.set_cons_zero, List.set_cons_succ]
    refine wpAnyH_take (i := 10) (oi := ?tko11) (v := ?tkv11) ?tkh11 (by kernel_rfl) (by kernel_rfl) (by kernel_rfl) ?tkq11 ?tky11 hHeld ?tkr11
    case tkh11 => (simp only [List.getElem?_toArray, List.getElem?_cons_succ, List.getElem?_cons_zero]; rfl)
    case tkq11 => exact fun _ _ _ h => h
    case tky11 => exact Or.inl ⟨by rfl, by intro wSw hSw; (try dsimp only at hSw); go_simp; try with_reducible rfl⟩
    try simp only [Act.put, List.setIfInBounds_toArray, List.set_cons_zero, List.set_cons_succ]
    refine wpAnyH_take (i := 11) (oi := ?tko12) (v := ?tkv12) ?tkh12 (by kernel_rfl) (by kernel_rfl) (by kernel_rfl) ?tkq12 ?tky12 hHeld ?tkr12
    case tkh12 => (simp only [List.getElem?_toArray, List.getElem?_cons_succ, List.getElem?_cons_zero]; rfl)
    case tkq12 => exact fun _ _ _ h => h
    case tky12 => exact Or.inl ⟨by rfl, by intro wSw hSw; (try dsimp only at hSw); go_simp; try with_reducible rfl⟩
    try simp only [Act.put, List.setIfInBounds_toArray, List.set_cons_zero, List.set_cons_succ]
    refine wpAnyH_take (i := 12) (oi := ?tko13) (v := ?tkv13) ?tkh13 (by kernel_rfl) (by kernel_rfl) (by kernel_rfl) ?tkq13 ?tky13 hHeld ?tkr13
    case tkh13 => (simp only [List.getElem?_toArray, List.getElem?_cons_succ, List.getElem?_cons_zero]; rfl)
    case tkq13 => exact fun _ _ _ h => h
    case tky13 => exact Or.inl ⟨by rfl, by intro wSw hSw; (try dsimp only at hSw); go_simp; try with_reducible rfl⟩
    try simp only [Act.put, List.setIfInBounds_toArray, List.set_cons_zero, List.set_cons_succ]
    refine wpAnyH_take (i := 13) (oi := ?tko14) (v := ?tkv14) ?tkh14 (by kernel_rfl) (by kernel_rfl) (by kernel_rfl) ?tkq14 ?tky14 hHeld ?tkr14
    case tkh14 => (simp only [List.getElem?_toArray, List.getElem?_cons_succ, List.getElem?_cons_zero]; rfl)
    case tkq14 => exact fun _ _ _ h => h
    case tky14 => exact Or.inl ⟨by rfl, by intro wSw hSw; (try dsimp only at hSw); go_simp; try with_reducible rfl⟩
    try simp only [Act.put, List.setIfInBounds_toArray, List.set_cons_zero, List.set_cons_succ]
    refine wpAnyH_done (by kernel_rfl) ?_ _
    clear hHeld
    have x2v : V.cell? ⟨g, 2, none⟩ = some (.int .i64 (s.er : Nat)) := by rw [← hV]; exact x2
    clear hV x1 x2 x5 y2 r0 r1 q0 q1
    by_cases hke : k = ne
    · have hke' : ((k : Int) == (ne : Int)) = true := by simp [hke]
      have HE := Lib.hid (show nextP s (i : Int) = (noEv, s.er, s) by unfold nextP; rw [ho]; simp only; rw [if_neg (by omega)])
      have hbd := HBV.out.later ((Below.refl V.heap.size V).drew)
      have r0 := hbd.cell 0 rfl
      have r1 := hbd.cell 1 rfl
      have q0 := hbd.fz 0 rfl
      have q1 := hbd.fz 1 rfl
      have u := hbd.set 0 (.int .u64 0) (by simp)
      have u0 := u.cell 0 rfl
      have u1 := (u.set 1 (.slice none 0 0) (by simp)).cell 1 rfl
      have HTV := Lib.hid (show Turn w0 V.drew g D s from ((Turn.refl HPV.out).below ((Below.refl V.heap.size V).drew)).ahead HLV.out)
      clear hbd u ho
      go_wp2_with fail
      refine wp_region_held_drew (S := fun W => W.cell? ⟨g, 2, none⟩ = some (.int .i64 (s.er : Nat))) (by kernel_rfl) (by exact x2v) (fun hHeld => ?_)
      obtain ⟨V2, hV2⟩ : ∃ V2, V.drew = V2 := ⟨_, rfl⟩
      rw [hV2] at hHeld r0 r1 q0 q1 u0 u1 HTV ⊢
      refine wpAnyH_take (i := 0) (oi := ?tko15) (v := ?tkv15) ?tkh15 (by kernel_rfl) (by kernel_rfl) (by kernel_rfl) ?tkq15 ?tky15 hHeld ?tkr15
      case tkh15 => (simp only [List.getElem?_toArray, List.getElem?_cons_zero]; rfl)
      case tkq15 => exact fun _ _ _ h => h
      case tky15 => exact Or.inl ⟨by rfl, by intro wSw hSw; (try dsimp only at hSw); go_simp; try with_reducible rfl⟩
      try simp only [Act.put, List.setIfInBounds_toArray, List.set_cons_zero, List.set_cons_succ]
      refine wpAnyH_take (i := 1) (oi := ?tko16) (v := ?tkv16) ?tkh16 (by kernel_rfl) (by kernel_rfl) (by kernel_rfl) ?tkq16 ?tky16 hHeld ?tkr16
      case tkh16 => (simp only [List.getElem?_toArray, List.getElem?_cons_succ, List.getElem?_cons_zero]; rfl)
      case tkq16 => exact fun _ _ _ h => h
      case tky16 => exact Or.inl ⟨by rfl, by intro wSw hSw; (try dsimp only at hSw); go_simp; try with_reducible rfl⟩
      try simp only [Act.put, List.setIfInBounds_toArray, List.set_cons_zero, List.set_cons_succ]
      refine wpAnyH_take (i := 2) (oi := ?tko17) (v := ?tkv17) ?tkh17 (by kernel_rfl) (by kernel_rfl) (by kernel_rfl) ?tkq17 ?tky17 hHeld ?tkr17
      case tkh17 => (simp only [List.getElem?_toArray, List.getElem?_cons_succ, List.getElem?_cons_zero]; rfl)
      case tkq17 => exact fun _ _ _ h => h
      case tky17 => exact Or.inl ⟨by rfl, by intro wSw hSw; (try dsimp only at hSw); go_simp; try with_reducible rfl⟩
      try simp only [Act.put, List.setIfInBounds_toArray, List.set_cons_zero, List.set_cons_succ]
      refine wpAnyH_take (i := 3) (oi := ?tko18) (v := ?tkv18) ?tkh18 (by kernel_rfl) (by kernel_rfl) (by kernel_rfl) ?tkq18 ?tky18 hHeld ?tkr18
      case tkh18 => (simp only [List.getElem?_toArray, List.getElem?_cons_succ, List.getElem?_cons_zero]; rfl)
      case tkq18 => exact fun _ _ _ h => h
      case tky18 => exact Or.inl ⟨by rfl, by intro wSw hSw; (try dsimp only at hSw); go_simp; try with_reducible rfl⟩
      try simp only [Act.put, List.setIfInBounds_toArray, List.set_cons_zero, List.set_cons_succ]
      refine wpAnyH_take (i := 4) (oi := ?tko19) (v := ?tkv19) ?tkh19 (by kernel_rfl) (by kernel_rfl) (by kernel_rfl) ?tkq19 ?tky19 hHeld ?tkr19
      case tkh19 => (simp only [List.getElem?_toArray, List.getElem?_cons_succ, List.getElem?_cons_zero]; rfl)
      case tkq19 => exact fun _ _ _ h => h
      case tky19 => exact Or.inl ⟨by rfl, by intro wSw hSw; (try dsimp only at hSw); go_simp; try with_reducible rfl⟩
      try simp only [Act.put, List.setIfInBounds_toArray, List.set_cons_zero, List.set_cons_succ]
      have x2b : ((V2.setCell ⟨w.heap.size, 0, none⟩ (.int .u64 0)).setCell ⟨w.heap.size, 1, none⟩ (.slice none 0 0)).cell? ⟨g, 2, none⟩ = some (.int .i64 (s.er : Nat)) := by
        rw [Record.set2_cell V2 w.heap.size _ _ ⟨g, 2, none⟩ (fun e => by have h1 := hDL g HP.out.dg; have h2 : g = w.heap.size := e; omega)]
        exact hHeld
      refine wpAnyH_ready (rs := [5]) (by kernel_rfl) (by simp) ?_
      refine AllReadyH.cons (o := ?tko20) ?tkh20 (fun Kt20 hKt20 => ?_) AllReadyH.nil
      case tkh20 => (simp only [List.getElem?_toArray, List.getElem?_cons_succ, List.getElem?_cons_zero]; rfl)
      go_simp
      (skip)
      refine hKt20.out _ _ ?_ (fun hHt20 => ?_)
      · (exact x2b)
      clear hKt20 Kt20 hHeld
      have hHeld := hHt20
      clear hHt20
      try simp only [Act.put, List.setIfInBounds_toArray, List.set_cons_zero, List.set_cons_succ]
      refine wpAnyH_take (i := 6) (oi := ?tko21) (v := ?tkv21) ?tkh21 (by kernel_rfl) (by kernel_rfl) (by kernel_rfl) ?tkq21 ?tky21 hHeld ?tkr21
      case tkh21 => (simp only [List.getElem?_toArray, List.getElem?_cons_succ, List.getElem?_cons_zero]; rfl)
      case tkq21 => exact fun _ _ _ h => h
      case tky21 => exact Or.inl ⟨by rfl, by intro wSw hSw; (try dsimp only at hSw); go_simp; try with_reducible rfl⟩
      try simp only [Act.put, List.setIfInBounds_toArray, List.set_cons_zero, List.set_cons_succ]
      refine wpAnyH_done (by kernel_rfl) ?_ _
      clear hHeld
      go_wp2_with fail
      refine bodyPost_ret (v := .tuple #[.agg #[.int .u64 0, .slice none 0 0], .int .i64 (s.er : Nat)]) (by simp [results, Tryz.results49, go_sem, u0, u1]) rfl ?_
      rw [HE.out]
      exact ⟨none, 0, rfl, no_ok _, HBX.out _ _ HTV.out _ _⟩
    have hkl : k < ne := by omega
    have hke' : ((k : Int) == (ne : Int)) = false := by simp; omega
    have hkl2 : k < s.t.events.length := by rw [hel]; exact hkl
    have HE := Lib.hid (show nextP s (i : Int) = (s.t.events.getD k noEv, 0, meterP { s with hs := s.hs.set i (some (k + 1)) }) by unfold nextP; rw [ho]; simp only; rw [if_pos hkl2]; rfl)
    have x5 := HAV.out.x5
    have y2 := HAV.out.y2
    have z2 := HAV.out.z2
    have hmv := HAV.out.move (k + 1)
    have hg2 : g2 ≠ w.heap.size := fun e => by
      have := hDL g2 (HAV.out.rq.d2 g2 rfl)
      omega
    have hlen := HAV.out.lt
    rw [show ((k + 1 : Nat) : Int) = (k : Int) + 1 by omega] at hmv
    obtain ⟨D5, hr5, hd5, hl5⟩ := hmv
    have HFC := Lib.hid (refCells _ g D5 _ hr5 (HOK.out.atp.set i (fun m hm => by injection hm with hm; subst hm; exact hkl2)) (by show (s.hs.set i (some (k + 1))).length ≤ _; rw [List.length_set]; omega) hpk)
    have HD5 := Lib.hid hd5
    have HL5 := Lib.hid hl5
    have HBX1 := Lib.hid (HBV.out.same (w' := V.setCell ⟨g2, i, none⟩ (.int .i64 ((k : Int) + 1))) (by simp) (Below.heap_setCell V ⟨g2, i, none⟩ _ w.heap.size (Ne.symm hg2)))
    have hVs := HBV.out.1
    clear hr5 hd5 hl5 HB0 HH HA HP
    go_wp2_with fail
    refine HFC.out.mono ?_
    rintro e w6 ⟨rfl, D6, hr6, hd6, hl6⟩
    have hnb : ¬ D5 w.heap.size := fun e => by
      rcases HD5.out _ e with h1 | h1
      · have := hDL _ h1; omega
      · omega
    have hb6 := HBX1.out.same hl6.size (hl6.block _ HBX1.out.1 hnb)
    have hdr := (Below.refl w6.heap.size w6).drew
    obtain ⟨X, hX⟩ : ∃ X, w6.drew = X := ⟨_, rfl⟩
    have hbX : Blk X w.heap.size [.int .u64 0, .slice none 0 0] := by rw [← hX]; exact hb6.later hdr
    have hrX : RP X g D6 (meterP { s with hs := s.hs.set i (some (k + 1)) }) := by rw [← hX]; exact hr6.below hdr
    have hlX : Left D5 (V.setCell ⟨g2, i, none⟩ (.int .i64 ((k : Int) + 1))) X := by rw [← hX]; exact hl6.trans (Left.of_below (D := D5) hdr) (fun q e => .inl e)
    have hTX : Turn w0 X g D (meterP { s with hs := s.hs.set i (some (k + 1)) }) := (Turn.step HD5.out HL5.out ⟨D6, hrX, hd6, hlX⟩).ahead HLV.out
    have hk6 : headP (meterP { s with hs := s.hs.set i (some (k + 1)) }).hs (i : Int) = some (k + 1) := by
      show headP (s.hs.set i (some (k + 1))) (i : Int) = some (k + 1)
      unfold headP
      rw [if_neg (by omega), Int.toNat_natCast, List.getD_eq_getElem?_getD, List.getElem?_set, if_pos rfl, if_pos hlen]
      rfl
    obtain ⟨i', h1, d1, h2, d2, ats2, ei, hA6⟩ := hrX.head hk6
    obtain rfl : i = i' := by omega
    obtain ⟨NA6, nn6, nc6, EA6, ne6, ec6, e61, e62, -⟩ := hA6.rq.ex
    obtain ⟨b, off, K, ck, rfl, ev0, ev1, hevk, hSb, hevS⟩ := evok_of e62 (k := k) hkl2
    have hne6 : s.t.events.length = ne6 := e62.elen
    have hec6 := e62.ecap
    have hK : ∀ a, K = some a → 0 < (s.t.events.getD k noEv).ids.length → a.block ≠ w.heap.size := fun a e h0 => by
      have h3 := (hevS a e h0).1
      intro h4
      rw [h4] at h3
      rcases hd6 _ h3 with h5 | h5
      · exact hnb h5
      · have h6 : (V.setCell ⟨g2, i, none⟩ (.int .i64 ((k : Int) + 1))).heap.size = V.heap.size := by simp
        omega
    have hd6n : ∀ q, D6 q → q ≠ w.heap.size := fun q hq e => by
      rw [e] at hq
      rcases hd6 _ hq with h5 | h5
      · exact hnb h5
      · have h6 : (V.setCell ⟨g2, i, none⟩ (.int .i64 ((k : Int) + 1))).heap.size = V.heap.size := by simp
        omega
    have a1 := e61.cell 1 rfl
    have a5 := hA6.x5
    have a2 := hA6.y2
    have hn2 := hd6n h2 (hA6.rq.d2 h2 rfl)
    have hnb2 := hd6n b hSb.1
    have hng := hd6n g hrX.dg
    have hlt6 : (i : Int) < ((meterP { s with hs := s.hs.set i (some (k + 1)) }).hs.length : Int) := by have := hA6.lt; omega
    have hle6 := hA6.c2le
    obtain ⟨n6, hn6⟩ : ∃ n6, (meterP { s with hs := s.hs.set i (some (k + 1)) }).hs.length = n6 := ⟨_, rfl⟩
    rw [hn6] at a5 hlt6 hle6
    obtain ⟨x, hx⟩ : ∃ x, s.t.events.getD k noEv = x := ⟨_, rfl⟩
    have hxe : (meterP { s with hs := s.hs.set i (some (k + 1)) }).t.events.getD k noEv = x := hx
    rw [hxe] at ev0 ev1 hevk
    rw [hx] at HE hK
    rw [show ((k + 1 : Nat) : Int) = (k : Int) + 1 by omega] at a2
    have hkn6 : (k : Int) < (ne6 : Int) := by omega
    have hwr : IntKind.i64.wrap (k : Int) = (k : Int) := IntWalk.i64_in _ (by omega)
    have r0 := hbX.cell 0 rfl
    have r1 := hbX.cell 1 rfl
    have q0 := hbX.fz 0 rfl
    have q1 := hbX.fz 1 rfl
    have u := hbX.set 0 (.int .u64 x.time) (by simp)
    have u0 := u.cell 0 rfl
    have u1 := (u.set 1 (.slice K x.ids.length ck) (by simp)).cell 1 rfl
    have HOKX := Lib.hid (evok_put hevk hK (.int .u64 x.time) (.slice K x.ids.length ck))
    have HTX := Lib.hid (HBX.out _ _ hTX (.int .u64 x.time) (.slice K x.ids.length ck))
    have hst : ∀ (p : Addr) (v : Value), p.block ≠ w.heap.size → X.cell? p = some v → ((X.setCell ⟨w.heap.size, 0, none⟩ (.int .u64 x.time)).setCell ⟨w.heap.size, 1, none⟩ (.slice K x.ids.length ck)).cell? p = some v := fun p v hp hv => by
      rw [Record.set2_cell X w.heap.size _ _ p hp]
      exact hv
    have HST := Lib.hid (And.intro (hst ⟨g, 1, none⟩ _ hng a1) (And.intro (hst ⟨g, 5, none⟩ _ hng a5) (And.intro (hst ⟨h2, i, none⟩ _ hn2 a2) (And.intro (hst ⟨b, off + k * 2, none⟩ _ hnb2 ev0) (hst ⟨b, off + k * 2 + 1, none⟩ _ hnb2 ev1)))))
    have HS0 := Lib.hid (And.intro a1 (And.intro a5 (And.intro a2 (And.intro ev0 ev1))))
    clear hnb hb6 hdr hbX hrX hlX hTX hk6 hA6 e61 e62 hevk hSb hevS hK hd6n hn6 hx hxe u hst hr6 hd6 hl6
    go_wp2_with fail
    refine wp_region_held_drew (S := fun W => W.cell? ⟨g, 1, none⟩ = some (.slice (some ⟨b, off, none⟩) ne6 ec6) ∧ W.cell? ⟨g, 5, none⟩ = some (.slice (some ⟨h2, 0, none⟩) n6 d2) ∧ W.cell? ⟨h2, i, none⟩ = some (.int .i64 ((k : Int) + 1)) ∧ W.cell? ⟨b, off + k * 2, none⟩ = some (.int .u64 x.time) ∧ W.cell? ⟨b, off + k * 2 + 1, none⟩ = some (.slice K x.ids.length ck)) (by kernel_rfl) (by rw [hX]; exact HS0.out) (fun hHeld => ?_)
    rw [hX] at hHeld ⊢
    clear hX
    refine wpAnyH_take (i := 0) (oi := ?tko22) (v := ?tkv22) ?tkh22 (by kernel_rfl) (by kernel_rfl) (by kernel_rfl) ?tkq22 ?tky22 hHeld ?tkr22
    case tkh22 => (simp only [List.getElem?_toArray, List.getElem?_cons_zero]; rfl)
    case tkq22 => exact fun _ _ _ h => h
    case tky22 => exact Or.inl ⟨by rfl, by intro wSw hSw; (try dsimp only at hSw); go_simp; try with_reducible rfl⟩
    try simp only [Act.put, List.setIfInBounds_toArray, List.set_cons_zero, List.set_cons_succ]
    refine wpAnyH_take (i := 1) (oi := ?tko23) (v := ?tkv23) ?tkh23 (by kernel_rfl) (by kernel_rfl) (by kernel_rfl) ?tkq23 ?tky23 hHeld ?tkr23
    case tkh23 => (simp only [List.getElem?_toArray, List.getElem?_cons_succ, List.getElem?_cons_zero]; rfl)
    case tkq23 => exact fun _ _ _ h => h
    case tky23 => exact Or.inl ⟨by rfl, by intro wSw hSw; (try dsimp only at hSw); go_simp; try with_reducible rfl⟩
    try simp only [Act.put, List.setIfInBounds_toArray, List.set_cons_zero, List.set_cons_succ]
    refine wpAnyH_take (i := 2) (oi := ?tko24) (v := ?tkv24) ?tkh24 (by kernel_rfl) (by kernel_rfl) (by kernel_rfl) ?tkq24 ?tky24 hHeld ?tkr24
    case tkh24 => (simp only [List.getElem?_toArray, List.getElem?_cons_succ, List.getElem?_cons_zero]; rfl)
    case tkq24 => exact fun _ _ _ h => h
    case tky24 => exact Or.inl ⟨by rfl, by intro wSw hSw; (try dsimp only at hSw); go_simp; try with_reducible rfl⟩
    try simp only [Act.put, List.setIfInBounds_toArray, List.set_cons_zero, List.set_cons_succ]
    refine wpAnyH_take (i := 3) (oi := ?tko25) (v := ?tkv25) ?tkh25 (by kernel_rfl) (by kernel_rfl) (by kernel_rfl) ?tkq25 ?tky25 hHeld ?tkr25
    case tkh25 => (simp only [List.getElem?_toArray, List.getElem?_cons_succ, List.getElem?_cons_zero]; rfl)
    case tkq25 => exact fun _ _ _ h => h
    case tky25 => exact Or.inl ⟨by rfl, by intro wSw hSw; (try dsimp only at hSw); go_simp; try with_reducible rfl⟩
    try simp only [Act.put, List.setIfInBounds_toArray, List.set_cons_zero, List.set_cons_succ]
    refine wpAnyH_take (i := 4) (oi := ?tko26) (v := ?tkv26) ?tkh26 (by kernel_rfl) (by kernel_rfl) (by kernel_rfl) ?tkq26 ?tky26 hHeld ?tkr26
    case tkh26 => (simp only [List.getElem?_toArray, List.getElem?_cons_succ, List.getElem?_cons_zero]; rfl)
    case tkq26 => exact fun _ _ _ h => h
    case tky26 => exact Or.inl ⟨by rfl, by intro wSw hSw; (try dsimp only at hSw); go_simp; try with_reducible rfl⟩
    try simp only [Act.put, List.setIfInBounds_toArray, List.set_cons_zero, List.set_cons_succ]
    refine wpAnyH_take (i := 5) (oi := ?tko27) (v := ?tkv27) ?tkh27 (by kernel_rfl) (by kernel_rfl) (by kernel_rfl) ?tkq27 ?tky27 hHeld ?tkr27
    case tkh27 => (simp only [List.getElem?_toArray, List.getElem?_cons_succ, List.getElem?_cons_zero]; rfl)
    case tkq27 => exact fun _ _ _ h => h
    case tky27 => exact Or.inl ⟨by rfl, by intro wSw hSw; (try dsimp only at hSw); go_simp; try with_reducible rfl⟩
    try simp only [Act.put, List.setIfInBounds_toArray, List.set_cons_zero, List.set_cons_succ]
    refine wpAnyH_take (i := 6) (oi := ?tko28) (v := ?tkv28) ?tkh28 (by kernel_rfl) (by kernel_rfl) (by kernel_rfl) ?tkq28 ?tky28 hHeld ?tkr28
    case tkh28 => (simp only [List.getElem?_toArray, List.getElem?_cons_succ, List.getElem?_cons_zero]; rfl)
    case tkq28 => exact fun _ _ _ h => h
    case tky28 => exact Or.inl ⟨by rfl, by intro wSw hSw; (try dsimp only at hSw); go_simp; try with_reducible rfl⟩
    try simp only [Act.put, List.setIfInBounds_toArray, List.set_cons_zero, List.set_cons_succ]
    refine wpAnyH_take (i := 7) (oi := ?tko29) (v := ?tkv29) ?tkh29 (by kernel_rfl) (by kernel_rfl) (by kernel_rfl) ?tkq29 ?tky29 hHeld ?tkr29
    case tkh29 => (simp only [List.getElem?_toArray, List.getElem?_cons_succ, List.getElem?_cons_zero]; rfl)
    case tkq29 => exact fun _ _ _ h => h
    case tky29 => exact Or.inl ⟨by rfl, by intro wSw hSw; (try dsimp only at hSw); go_simp; try with_reducible rfl⟩
    try simp only [Act.put, List.setIfInBounds_toArray, List.set_cons_zero, List.set_cons_succ]
    refine wpAnyH_take (i := 8) (oi := ?tko30) (v := ?tkv30) ?tkh30 (by kernel_rfl) (by kernel_rfl) (by kernel_rfl) ?tkq30 ?tky30 hHeld ?tkr30
    case tkh30 => (simp only [List.getElem?_toArray, List.getElem?_cons_succ, List.getElem?_cons_zero]; rfl)
    case tkq30 => exact fun _ _ _ h => h
    case tky30 => exact Or.inl ⟨by rfl, by intro wSw hSw; (try dsimp only at hSw); go_simp; try with_reducible rfl⟩
    try simp only [Act.put, List.setIfInBounds_toArray, List.set_cons_zero, List.set_cons_succ]
    refine wpAnyH_take (i := 9) (oi := ?tko31) (v := ?tkv31) ?tkh31 (by kernel_rfl) (by kernel_rfl) (by kernel_rfl) ?tkq31 ?tky31 hHeld ?tkr31
    case tkh31 => (simp only [List.getElem?_toArray, List.getElem?_cons_succ, List.getElem?_cons_zero]; rfl)
    case tkq31 => exact fun _ _ _ h => h
    case tky31 => exact Or.inl ⟨by rfl, by intro wSw hSw; (try dsimp only at hSw); go_simp; try with_reducible rfl⟩
    try simp only [Act.put, List.setIfInBounds_toArray, List.set_cons_zero, List.set_cons_succ]
    refine wpAnyH_take (i := 10) (oi := ?tko32) (v := ?tkv32) ?tkh32 (by kernel_rfl) (by kernel_rfl) (by kernel_rfl) ?tkq32 ?tky32 hHeld ?tkr32
    case tkh32 => (simp only [List.getElem?_toArray, List.getElem?_cons_succ, List.getElem?_cons_zero]; rfl)
    case tkq32 => exact fun _ _ _ h => h
    case tky32 => exact Or.inl ⟨by rfl, by intro wSw hSw; (try dsimp only at hSw); go_simp; try with_reducible rfl⟩
    try simp only [Act.put, List.setIfInBounds_toArray, List.set_cons_zero, List.set_cons_succ]
    refine wpAnyH_take (i := 11) (oi := ?tko33) (v := ?tkv33) ?tkh33 (by kernel_rfl) (by kernel_rfl) (by kernel_rfl) ?tkq33 ?tky33 hHeld ?tkr33
    case tkh33 => (simp only [List.getElem?_toArray, List.getElem?_cons_succ, List.getElem?_cons_zero]; rfl)
    case tkq33 => exact fun _ _ _ h => h
    case tky33 => exact Or.inl ⟨by rfl, by intro wSw hSw; (try dsimp only at hSw); go_simp; try with_reducible rfl⟩
    try simp only [Act.put, List.setIfInBounds_toArray, List.set_cons_zero, List.set_cons_succ]
    refine wpAnyH_take (i := 12) (oi := ?tko34) (v := ?tkv34) ?tkh34 (by kernel_rfl) (by kernel_rfl) (by kernel_rfl) ?tkq34 ?tky34 hHeld ?tkr34
    case tkh34 => (simp only [List.getElem?_toArray, List.getElem?_cons_succ, List.getElem?_cons_zero]; rfl)
    case tkq34 => exact fun _ _ _ h => h
    case tky34 => exact Or.inl ⟨by rfl, by intro wSw hSw; (try dsimp only at hSw); go_simp; try with_reducible rfl⟩
    try simp only [Act.put, List.setIfInBounds_toArray, List.set_cons_zero, List.set_cons_succ]
    refine wpAnyH_take (i := 13) (oi := ?tko35) (v := ?tkv35) ?tkh35 (by kernel_rfl) (by kernel_rfl) (by kernel_rfl) ?tkq35 ?tky35 hHeld ?tkr35
    case tkh35 => (simp only [List.getElem?_toArray, List.getElem?_cons_succ, List.getElem?_cons_zero]; rfl)
    case tkq35 => exact fun _ _ _ h => h
    case tky35 => exact Or.inl ⟨by rfl, by intro wSw hSw; (try dsimp only at hSw); go_simp; try with_reducible rfl⟩
    try simp only [Act.put, List.setIfInBounds_toArray, List.set_cons_zero, List.set_cons_succ]
    refine wpAnyH_take (i := 14) (oi := ?tko36) (v := ?tkv36) ?tkh36 (by kernel_rfl) (by kernel_rfl) (by kernel_rfl) ?tkq36 ?tky36 hHeld ?tkr36
    case tkh36 => (simp only [List.getElem?_toArray, List.getElem?_cons_succ, List.getElem?_cons_zero]; rfl)
    case tkq36 => exact fun _ _ _ h => h
    case tky36 => exact Or.inl ⟨by rfl, by intro wSw hSw; (try dsimp only at hSw); go_simp; try with_reducible rfl⟩
    try simp only [Act.put, List.setIfInBounds_toArray, List.set_cons_zero, List.set_cons_succ]
    refine wpAnyH_ready (rs := [15]) (by kernel_rfl) (by simp) ?_
    refine AllReadyH.cons (o := ?tko37) ?tkh37 (fun Kt37 hKt37 => ?_) AllReadyH.nil
    case tkh37 => (simp only [List.getElem?_toArray, List.getElem?_cons_succ, List.getElem?_cons_zero]; rfl)
    go_simp
    (skip)
    refine hKt37.out _ _ ?_ (fun hHt37 => ?_)
    · (exact HST.out)
    clear hKt37 Kt37 hHeld
    have hHeld := hHt37
    clear hHt37
    try simp only [Act.put, List.setIfInBounds_toArray, List.set_cons_zero, List.set_cons_succ]
    refine wpAnyH_take (i := 16) (oi := ?tko38) (v := ?tkv38) ?tkh38 (by kernel_rfl) (by kernel_rfl) (by kernel_rfl) ?tkq38 ?tky38 hHeld ?tkr38
    case tkh38 => (simp only [List.getElem?_toArray, List.getElem?_cons_succ, List.getElem?_cons_zero]; rfl)
    case tkq38 => exact fun _ _ _ h => h
    case tky38 => exact Or.inl ⟨by rfl, by intro wSw hSw; (try dsimp only at hSw); go_simp; try with_reducible rfl⟩
    try simp only [Act.put, List.setIfInBounds_toArray, List.set_cons_zero, List.set_cons_succ]
    refine wpAnyH_done (by kernel_rfl) ?_ _
    clear hHeld
    go_wp2_with fail
    refine bodyPost_ret (v := .tuple #[.agg #[.int .u64 x.time, .slice K x.ids.length ck], .int .i64 0]) (by simp [results, Tryz.results49, go_sem, u0, u1]) rfl ?_
    rw [HE.out]
    exact ⟨K, ck, rfl, HOKX.out, HTX.out⟩
end Go.Proofs.YtimbbfneaaglbaaGreat.Heads

namespace Go.Proofs.YtimbbfneaaglbaaGreat.Log
open Go.RowKit Go.Proofs.YtimbbfneaaglbaaGreat.Ints Go.Proofs.YtimbbfneaaglbaaGreat.Record

theorem cells_toI (s : ByteArray) : Lib.strCells s = (toI s.data.toList).map (Value.int .u8) := by
  simp [Lib.strCells, toI, List.map_map, Function.comp_def]
theorem size_toI (s : ByteArray) : (toI s.data.toList).length = s.size := by
  rw [toI_len]
  exact Array.length_toList
theorem wpList_append_str {P : Program} {w : World} {ops : Array Oper} {rest : List Oper} {o : Oper} {a : Act} {Q : Exit → Act → World → Prop} (hgd : o.guard = none) (sl x : Operand) (t u : TypeId)
    (ho : o.op = .call { callee := .builtin .append, args := #[sl, x], argTypes := #[t, u] })
    (base : Nat) (e : TypeId) (i : TypeInfo) (ht : P.underlying t = some (.slice e)) (hu : P.underlying u = some .string) (hi : P.info? e = some i) (hz : i.zero = some (.int .u8 0))
    (hsize : i.size = 1) (hby : i.bytes = 1)
    (v : Value) (n : Nat) (zs : List Int) (hs : a.eval sl = v) (hown : w.ownsRow base e 1 v n (zs.map (Value.int .u8))) (s : ByteArray) (hx : a.eval x = .string s)
    (h63 : n + s.size ≤ maxLen) (hbytes : n + s.size ≤ 140737488355328) (hbase : base ≤ w.heap.size)
    (h : ∀ v' w', w'.ownsRow base e 1 v' (n + s.size) ((zs ++ toI s.data.toList).map (Value.int .u8)) → w.grownBy w' v.ownBlock → wpList P ops Q rest (a.put o.dst v') w') : wpList P ops Q (o :: rest) a w :=
  Lib.wpList_append_own_string w hgd sl x t u ho base e i ht hu hi hz hsize hby v n _ hs hown s hx h63 hbytes hbase fun v' w' h1 h2 _ => h v' w' (by rw [List.map_append, ← cells_toI]; exact h1) h2
end Go.Proofs.YtimbbfneaaglbaaGreat.Log
