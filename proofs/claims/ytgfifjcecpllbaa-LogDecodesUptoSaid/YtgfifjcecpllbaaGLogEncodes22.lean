/-
  The walk of the reference's Decode. By an AI agent.
-/
import Derived.Test.YtgfifjcecpllbaaGLogEncodes21
import Derived.RegionTactic
namespace Go.Proofs.Ytgfifjcecpllbaa.Log
open Go.RowKit Go.Proofs.Ytgfifjcecpllbaa.Ints Go.Proofs.Ytgfifjcecpllbaa.Mem Go.Proofs.Ytgfifjcecpllbaa.SumMath Go.Proofs.Ytgfifjcecpllbaa.SumWalks Go.Proofs.Ytgfifjcecpllbaa.Trace Go.Proofs.Ytgfifjcecpllbaa.Record

/-- What Decode leaves: the trace, the number of its events, and a number. -/
def GotDec (w : World) (b : List Int) (e : Ending) (w' : World) : Prop :=
  ∃ NA nc EA ec, e = .returned (.tuple #[.agg #[.slice NA (decT b).names.length nc, .slice EA (decT b).events.length ec], .int .i64 ((decT b).events.length : Nat), .int .i64 (decE b : Nat)]) ∧
    TrOk Any w' NA (decT b).names.length nc EA (decT b).events.length ec (decT b) ∧ Below w.heap.size w w'
theorem tr_set {W : World} {NA EA : Option Addr} {nn nc ne ec g : Nat} {t : Tr} (h : TrOk (fun b => g < b) W NA nn nc EA ne ec t) (hN : ∀ a, NA = some a → g < a.block) (u0 u1 : Value) :
    TrOk Any ((W.setCell ⟨g, 0, none⟩ u0).setCell ⟨g, 1, none⟩ u1) NA nn nc EA ne ec t :=
  ⟨h.nlen, h.elen, strs_set h.names (fun a e => by have := hN a e; omega) _ _, h.sizes, (h.evs.keep fun p u hp hu => by rw [Record.set2_cell _ g _ _ _ (by have : g < p.block := hp; omega)]; exact hu).any, h.ncap, h.ecap⟩

set_option maxHeartbeats 4000000 in
set_option maxRecDepth 100000 in
theorem refDecode (A : Option Addr) (n c : Nat) (zs : List Int) (w : World) (hnc : n ≤ c) (hc : c ≤ maxLen) (hn : n ≤ 58000000) (h : Rd .u8 w A n zs) :
    Calls Try.prog 29 #[.slice A n c] w (GotDec w zs) := by
  have q63 : maxLen = 9223372036854775807 := rfl
  have b0 := Blk.new w #[.slice none 0 0, .slice none 0 0] 25 [.slice none 0 0, .slice none 0 0] rfl
  have hal := (Below.refl _ w).alloc (Nat.le_refl _) (.cells #[.slice none 0 0, .slice none 0 0] 25)
  have FR := refRecords A n c zs (w.alloc (.cells #[.slice none 0 0, .slice none 0 0] 25)) hnc hc hn (h.alloc _)
  unfold GotRecs at FR
  obtain ⟨t, ht⟩ : ∃ t, (recordsD zs).1 = t := ⟨_, rfl⟩
  obtain ⟨er, her⟩ : ∃ er, (recordsD zs).2 = er := ⟨_, rfl⟩
  rw [ht, her] at FR
  have HF := Lib.hid FR
  have HB0 := Lib.hid b0
  have HAL := Lib.hid hal
  have HT := Lib.hid (show decT zs = t by unfold decT; exact ht)
  have HE := Lib.hid (show decE zs = if er = 13 then 0 else er by unfold decE; rw [her])
  clear FR b0 hal ht her h
  go_enter Try.func29, Try.ntmps29
  go_wp2_with fail
  refine HF.out.mono ?_
  rintro e w1 ⟨NA, nc, EA, ec, rfl, hok, hNA, hB1⟩
  have hsz : (w.alloc (.cells #[.slice none 0 0, .slice none 0 0] 25)).heap.size = w.heap.size + 1 := by simp
  have HNA := Lib.hid (show ∀ a, NA = some a → w.heap.size < a.block from fun a e => by have := hNA a e; omega)
  have HO := Lib.hid (show TrOk (fun b => w.heap.size < b) w1 NA t.names.length nc EA t.events.length ec t from ⟨hok.nlen, hok.elen, hok.names, hok.sizes, hok.evs.mono fun b _ hb => by have : (w.alloc (.cells #[.slice none 0 0, .slice none 0 0] 25)).heap.size ≤ b := hb; omega, hok.ncap, hok.ecap⟩)
  obtain ⟨nn, hnn⟩ : ∃ nn, t.names.length = nn := ⟨_, rfl⟩
  obtain ⟨ne, hne⟩ : ∃ ne, t.events.length = ne := ⟨_, rfl⟩
  have HNN := Lib.hid hnn
  have HNE := Lib.hid hne
  rw [hnn, hne] at HO ⊢
  have hal2 := (Below.refl _ w1).alloc (Nat.le_refl _) (.cells #[.slice NA nn nc, .slice EA ne ec] 25)
  have t2 := Blk.new w1 #[.slice NA nn nc, .slice EA ne ec] 25 [.slice NA nn nc, .slice EA ne ec] rfl
  have g2 := (HB0.out.later hB1).alloc (.cells #[.slice NA nn nc, .slice EA ne ec] 25)
  have hlt : w.heap.size < w1.heap.size := by have := hB1.size; omega
  have HB2 := Lib.hid ((HAL.out.trans (hB1.mono HAL.out.size)).trans (hal2.mono (Nat.le_trans HAL.out.size hB1.size)))
  have HO2 := Lib.hid (TrOk.below HO.out hal2)
  have x0 := t2.cell 0 rfl
  have x1 := t2.cell 1 rfl
  have r0 := g2.cell 0 rfl
  have r1 := g2.cell 1 rfl
  have q0 := g2.fz 0 rfl
  have q1 := g2.fz 1 rfl
  have G2 := Lib.hid g2
  have T2 := Lib.hid t2
  clear hok hNA hB1 hnn hne hal2 t2 g2 hsz HF
  by_cases h13 : er = 13
  · subst h13
    have HE2 := Lib.hid (show decE zs = 0 by rw [HE.out, if_pos rfl])
    go_wp2
    obtain ⟨V, hV⟩ : ∃ V, V = (w1.alloc (.cells #[.slice NA nn nc, .slice EA ne ec] 25)).drew := ⟨_, rfl⟩
    have G3 := Lib.hid (show Blk V w.heap.size [.slice none 0 0, .slice none 0 0] by rw [hV]; exact G2.out.drew)
    have T3 := Lib.hid (show Blk V w1.heap.size [.slice NA nn nc, .slice EA ne ec] by rw [hV]; exact T2.out.drew)
    have HB3 := Lib.hid (show Below w.heap.size w V by rw [hV]; exact HB2.out.drew)
    have HO3 := Lib.hid (show TrOk (fun b => w.heap.size < b) V NA nn nc EA ne ec t by rw [hV]; exact TrOk.below HO2.out (Below.refl _ _).drew)
    have z0 := G3.out.cell 0 rfl
    have z1 := G3.out.cell 1 rfl
    have z2 := G3.out.fz 0 rfl
    have z3 := G3.out.fz 1 rfl
    refine wp_region_held_drew (S := fun W => W.cell? ⟨w1.heap.size, 0, none⟩ = some (.slice NA nn nc) ∧ W.cell? ⟨w1.heap.size, 1, none⟩ = some (.slice EA ne ec)) (by kernel_rfl) (by rw [← hV]; exact ⟨T3.out.cell 0 rfl, T3.out.cell 1 rfl⟩) (fun hHeld => ?_)
    rw [← hV] at hHeld ⊢
    clear hV r0 r1 q0 q1
    have hne : w1.heap.size ≠ w.heap.size := by omega
    have T4 := ((T3.out.other ⟨w.heap.size, 0, none⟩ (.slice NA nn nc) hne).other ⟨w.heap.size, 1, none⟩ (.slice EA ne ec) hne)
    refine wpAnyH_take (i := 0) (oi := ?tko1) (v := ?tkv1) ?tkh1 (by kernel_rfl) (by kernel_rfl) (by kernel_rfl) ?tkq1 ?tky1 hHeld ?tkr1
    case tkh1 => (simp only [List.getElem?_toArray, List.getElem?_cons_zero]; rfl)
    case tkq1 => exact fun _ _ _ h => h
    case tky1 => exact Or.inl ⟨by rfl, by intro wSw hSw; (try dsimp only at hSw); go_simp; try with_reducible rfl⟩
    try simp only [Act.put, List.setIfInBounds_toArray, List.set_cons_zero, List.set_cons_succ]
    refine wpAnyH_take (i := 1) (oi := ?tko2) (v := ?tkv2) ?tkh2 (by kernel_rfl) (by kernel_rfl) (by kernel_rfl) ?tkq2 ?tky2 hHeld ?tkr2
    case tkh2 => (simp only [List.getElem?_toArray, List.getElem?_cons_succ, List.getElem?_cons_zero]; rfl)
    case tkq2 => exact fun _ _ _ h => h
    case tky2 => exact Or.inl ⟨by rfl, by intro wSw hSw; (try dsimp only at hSw); go_simp; try with_reducible rfl⟩
    try simp only [Act.put, List.setIfInBounds_toArray, List.set_cons_zero, List.set_cons_succ]
    refine wpAnyH_take (i := 2) (oi := ?tko3) (v := ?tkv3) ?tkh3 (by kernel_rfl) (by kernel_rfl) (by kernel_rfl) ?tkq3 ?tky3 hHeld ?tkr3
    case tkh3 => (simp only [List.getElem?_toArray, List.getElem?_cons_succ, List.getElem?_cons_zero]; rfl)
    case tkq3 => exact fun _ _ _ h => h
    case tky3 => exact Or.inl ⟨by rfl, by intro wSw hSw; (try dsimp only at hSw); go_simp; try with_reducible rfl⟩
    try simp only [Act.put, List.setIfInBounds_toArray, List.set_cons_zero, List.set_cons_succ]
    refine wpAnyH_take (i := 3) (oi := ?tko4) (v := ?tkv4) ?tkh4 (by kernel_rfl) (by kernel_rfl) (by kernel_rfl) ?tkq4 ?tky4 hHeld ?tkr4
    case tkh4 => (simp only [List.getElem?_toArray, List.getElem?_cons_succ, List.getElem?_cons_zero]; rfl)
    case tkq4 => exact fun _ _ _ h => h
    case tky4 => exact Or.inl ⟨by rfl, by intro wSw hSw; (try dsimp only at hSw); go_simp; try with_reducible rfl⟩
    try simp only [Act.put, List.setIfInBounds_toArray, List.set_cons_zero, List.set_cons_succ]
    refine wpAnyH_take (i := 4) (oi := ?tko5) (v := ?tkv5) ?tkh5 (by kernel_rfl) (by kernel_rfl) (by kernel_rfl) ?tkq5 ?tky5 hHeld ?tkr5
    case tkh5 => (simp only [List.getElem?_toArray, List.getElem?_cons_succ, List.getElem?_cons_zero]; rfl)
    case tkq5 => exact fun _ _ _ h => h
    case tky5 => exact Or.inl ⟨by rfl, by intro wSw hSw; (try dsimp only at hSw); go_simp; try with_reducible rfl⟩
    try simp only [Act.put, List.setIfInBounds_toArray, List.set_cons_zero, List.set_cons_succ]
    refine wpAnyH_ready (rs := [5]) (by kernel_rfl) (by simp) ?_
    refine AllReadyH.cons (o := ?tko6) ?tkh6 (fun Kt6 hKt6 => ?_) AllReadyH.nil
    case tkh6 => (simp only [List.getElem?_toArray, List.getElem?_cons_succ, List.getElem?_cons_zero]; rfl)
    go_simp
    (skip)
    refine hKt6.out _ _ ?_ (fun hHt6 => ?_)
    · (exact ⟨T4.cell 0 rfl, T4.cell 1 rfl⟩)
    clear hKt6 Kt6 hHeld
    have hHeld := hHt6
    clear hHt6
    try simp only [Act.put, List.setIfInBounds_toArray, List.set_cons_zero, List.set_cons_succ]
    refine wpAnyH_take (i := 6) (oi := ?tko7) (v := ?tkv7) ?tkh7 (by kernel_rfl) (by kernel_rfl) (by kernel_rfl) ?tkq7 ?tky7 hHeld ?tkr7
    case tkh7 => (simp only [List.getElem?_toArray, List.getElem?_cons_succ, List.getElem?_cons_zero]; rfl)
    case tkq7 => exact fun _ _ _ h => h
    case tky7 => exact Or.inl ⟨by rfl, by intro wSw hSw; (try dsimp only at hSw); go_simp; try with_reducible rfl⟩
    try simp only [Act.put, List.setIfInBounds_toArray, List.set_cons_zero, List.set_cons_succ]
    refine wpAnyH_take (i := 7) (oi := ?tko8) (v := ?tkv8) ?tkh8 (by kernel_rfl) (by kernel_rfl) (by kernel_rfl) ?tkq8 ?tky8 hHeld ?tkr8
    case tkh8 => (simp only [List.getElem?_toArray, List.getElem?_cons_succ, List.getElem?_cons_zero]; rfl)
    case tkq8 => exact fun _ _ _ h => h
    case tky8 => exact Or.inl ⟨by rfl, by intro wSw hSw; (try dsimp only at hSw); go_simp; try with_reducible rfl⟩
    try simp only [Act.put, List.setIfInBounds_toArray, List.set_cons_zero, List.set_cons_succ]
    refine wpAnyH_done (by kernel_rfl) ?_ _
    clear hHeld
    have z := G3.out.set 0 (.slice NA nn nc) (by simp)
    have y0 := z.cell 0 rfl
    have y1 := (z.set 1 (.slice EA ne ec) (by simp)).cell 1 rfl
    clear z z0 z1 z2 z3 T4
    go_wp2
    refine bodyPost_ret (v := .tuple #[.agg #[.slice NA nn nc, .slice EA ne ec], .int .i64 (ne : Nat), .int .i64 0]) (by simp [results, Try.results29, go_sem, y0, y1]) rfl ?_
    unfold GotDec
    rw [HT.out, HE2.out, HNN.out, HNE.out]
    exact ⟨NA, nc, EA, ec, rfl, tr_set HO3.out HNA.out _ _, (HB3.out.setCell (Nat.le_refl _) _).setCell (Nat.le_refl _) _⟩
  · have h13' : ((er : Int) == 13) = false := by simp; omega
    have HE2 := Lib.hid (show decE zs = er by rw [HE.out, if_neg h13])
    go_wp2
    obtain ⟨V, hV⟩ : ∃ V, V = (w1.alloc (.cells #[.slice NA nn nc, .slice EA ne ec] 25)).drew := ⟨_, rfl⟩
    have G3 := Lib.hid (show Blk V w.heap.size [.slice none 0 0, .slice none 0 0] by rw [hV]; exact G2.out.drew)
    have T3 := Lib.hid (show Blk V w1.heap.size [.slice NA nn nc, .slice EA ne ec] by rw [hV]; exact T2.out.drew)
    have HB3 := Lib.hid (show Below w.heap.size w V by rw [hV]; exact HB2.out.drew)
    have HO3 := Lib.hid (show TrOk (fun b => w.heap.size < b) V NA nn nc EA ne ec t by rw [hV]; exact TrOk.below HO2.out (Below.refl _ _).drew)
    have z0 := G3.out.cell 0 rfl
    have z1 := G3.out.cell 1 rfl
    have z2 := G3.out.fz 0 rfl
    have z3 := G3.out.fz 1 rfl
    refine wp_region_held_drew (S := fun W => W.cell? ⟨w1.heap.size, 0, none⟩ = some (.slice NA nn nc) ∧ W.cell? ⟨w1.heap.size, 1, none⟩ = some (.slice EA ne ec)) (by kernel_rfl) (by rw [← hV]; exact ⟨T3.out.cell 0 rfl, T3.out.cell 1 rfl⟩) (fun hHeld => ?_)
    rw [← hV] at hHeld ⊢
    clear hV r0 r1 q0 q1
    have hne : w1.heap.size ≠ w.heap.size := by omega
    have T4 := ((T3.out.other ⟨w.heap.size, 0, none⟩ (.slice NA nn nc) hne).other ⟨w.heap.size, 1, none⟩ (.slice EA ne ec) hne)
    refine wpAnyH_take (i := 0) (oi := ?tko9) (v := ?tkv9) ?tkh9 (by kernel_rfl) (by kernel_rfl) (by kernel_rfl) ?tkq9 ?tky9 hHeld ?tkr9
    case tkh9 => (simp only [List.getElem?_toArray, List.getElem?_cons_zero]; rfl)
    case tkq9 => exact fun _ _ _ h => h
    case tky9 => exact Or.inl ⟨by rfl, by intro wSw hSw; (try dsimp only at hSw); go_simp; try with_reducible rfl⟩
    try simp only [Act.put, List.setIfInBounds_toArray, List.set_cons_zero, List.set_cons_succ]
    refine wpAnyH_take (i := 1) (oi := ?tko10) (v := ?tkv10) ?tkh10 (by kernel_rfl) (by kernel_rfl) (by kernel_rfl) ?tkq10 ?tky10 hHeld ?tkr10
    case tkh10 => (simp only [List.getElem?_toArray, List.getElem?_cons_succ, List.getElem?_cons_zero]; rfl)
    case tkq10 => exact fun _ _ _ h => h
    case tky10 => exact Or.inl ⟨by rfl, by intro wSw hSw; (try dsimp only at hSw); go_simp; try with_reducible rfl⟩
    try simp only [Act.put, List.setIfInBounds_toArray, List.set_cons_zero, List.set_cons_succ]
    refine wpAnyH_take (i := 2) (oi := ?tko11) (v := ?tkv11) ?tkh11 (by kernel_rfl) (by kernel_rfl) (by kernel_rfl) ?tkq11 ?tky11 hHeld ?tkr11
    case tkh11 => (simp only [List.getElem?_toArray, List.getElem?_cons_succ, List.getElem?_cons_zero]; rfl)
    case tkq11 => exact fun _ _ _ h => h
    case tky11 => exact Or.inl ⟨by rfl, by intro wSw hSw; (try dsimp only at hSw); go_simp; try with_reducible rfl⟩
    try simp only [Act.put, List.setIfInBounds_toArray, List.set_cons_zero, List.set_cons_succ]
    refine wpAnyH_take (i := 3) (oi := ?tko12) (v := ?tkv12) ?tkh12 (by kernel_rfl) (by kernel_rfl) (by kernel_rfl) ?tkq12 ?tky12 hHeld ?tkr12
    case tkh12 => (simp only [List.getElem?_toArray, List.getElem?_cons_succ, List.getElem?_cons_zero]; rfl)
    case tkq12 => exact fun _ _ _ h => h
    case tky12 => exact Or.inl ⟨by rfl, by intro wSw hSw; (try dsimp only at hSw); go_simp; try with_reducible rfl⟩
    try simp only [Act.put, List.setIfInBounds_toArray, List.set_cons_zero, List.set_cons_succ]
    refine wpAnyH_take (i := 4) (oi := ?tko13) (v := ?tkv13) ?tkh13 (by kernel_rfl) (by kernel_rfl) (by kernel_rfl) ?tkq13 ?tky13 hHeld ?tkr13
    case tkh13 => (simp only [List.getElem?_toArray, List.getElem?_cons_succ, List.getElem?_cons_zero]; rfl)
    case tkq13 => exact fun _ _ _ h => h
    case tky13 => exact Or.inl ⟨by rfl, by intro wSw hSw; (try dsimp only at hSw); go_simp; try with_reducible rfl⟩
    try simp only [Act.put, List.setIfInBounds_toArray, List.set_cons_zero, List.set_cons_succ]
    refine wpAnyH_ready (rs := [5]) (by kernel_rfl) (by simp) ?_
    refine AllReadyH.cons (o := ?tko14) ?tkh14 (fun Kt14 hKt14 => ?_) AllReadyH.nil
    case tkh14 => (simp only [List.getElem?_toArray, List.getElem?_cons_succ, List.getElem?_cons_zero]; rfl)
    go_simp
    (skip)
    refine hKt14.out _ _ ?_ (fun hHt14 => ?_)
    · (exact ⟨T4.cell 0 rfl, T4.cell 1 rfl⟩)
    clear hKt14 Kt14 hHeld
    have hHeld := hHt14
    clear hHt14
    try simp only [Act.put, List.setIfInBounds_toArray, List.set_cons_zero, List.set_cons_succ]
    refine wpAnyH_take (i := 6) (oi := ?tko15) (v := ?tkv15) ?tkh15 (by kernel_rfl) (by kernel_rfl) (by kernel_rfl) ?tkq15 ?tky15 hHeld ?tkr15
    case tkh15 => (simp only [List.getElem?_toArray, List.getElem?_cons_succ, List.getElem?_cons_zero]; rfl)
    case tkq15 => exact fun _ _ _ h => h
    case tky15 => exact Or.inl ⟨by rfl, by intro wSw hSw; (try dsimp only at hSw); go_simp; try with_reducible rfl⟩
    try simp only [Act.put, List.setIfInBounds_toArray, List.set_cons_zero, List.set_cons_succ]
    refine wpAnyH_take (i := 7) (oi := ?tko16) (v := ?tkv16) ?tkh16 (by kernel_rfl) (by kernel_rfl) (by kernel_rfl) ?tkq16 ?tky16 hHeld ?tkr16
    case tkh16 => (simp only [List.getElem?_toArray, List.getElem?_cons_succ, List.getElem?_cons_zero]; rfl)
    case tkq16 => exact fun _ _ _ h => h
    case tky16 => exact Or.inl ⟨by rfl, by intro wSw hSw; (try dsimp only at hSw); go_simp; try with_reducible rfl⟩
    try simp only [Act.put, List.setIfInBounds_toArray, List.set_cons_zero, List.set_cons_succ]
    refine wpAnyH_done (by kernel_rfl) ?_ _
    clear hHeld
    have z := G3.out.set 0 (.slice NA nn nc) (by simp)
    have y0 := z.cell 0 rfl
    have y1 := (z.set 1 (.slice EA ne ec) (by simp)).cell 1 rfl
    clear z z0 z1 z2 z3 T4
    go_wp2
    refine bodyPost_ret (v := .tuple #[.agg #[.slice NA nn nc, .slice EA ne ec], .int .i64 (ne : Nat), .int .i64 (er : Nat)]) (by simp [results, Try.results29, go_sem, y0, y1]) rfl ?_
    unfold GotDec
    rw [HT.out, HE2.out, HNN.out, HNE.out]
    exact ⟨NA, nc, EA, ec, rfl, tr_set HO3.out HNA.out _ _, (HB3.out.setCell (Nat.le_refl _) _).setCell (Nat.le_refl _) _⟩
end Go.Proofs.Ytgfifjcecpllbaa.Log
