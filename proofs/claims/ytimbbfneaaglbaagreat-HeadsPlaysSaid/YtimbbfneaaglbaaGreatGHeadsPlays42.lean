/-
  The walks of the landed header's part, count and name (stage 12). By an AI agent.
-/
import Derived.Test.YtimbbfneaaglbaaGreatGHeadsPlays41
import Derived.Test.YtimbbfneaaglbaaGreatGHeadsPlays37
import Derived.Test.YtimbbfneaaglbaaGreatGHeadsPlays30
namespace Go.Proofs.YtimbbfneaaglbaaGreat.Scan
open Go.RowKit Go.Proofs.YtimbbfneaaglbaaGreat.Ints Go.Proofs.YtimbbfneaaglbaaGreat.Mem Go.Proofs.YtimbbfneaaglbaaGreat.SumMath Go.Proofs.YtimbbfneaaglbaaGreat.SumWalks Go.Proofs.YtimbbfneaaglbaaGreat.Trace Go.Proofs.YtimbbfneaaglbaaGreat.Record Go.Proofs.YtimbbfneaaglbaaGreat.Log Go.Proofs.YtimbbfneaaglbaaGreat.Src
open Go.Proofs.YtimbbfneaaglbaaGreat.Lex (nameS)

structure HdR (S : Nat → Prop) (w0 w : World) (g : Nat) (b sc : List Int) (f N k : Nat) (v : Value) : Prop where
  src : LSrc (fun q => S q ∧ q < w0.heap.size) w g b sc f N
  box : Blk w w0.heap.size [.pointer (some ⟨g, 0, none⟩), v]
  row : w.ownsRow (w0.heap.size + 1) 5 1 v k (((b.take f).take k).map (Value.int .u8))
  gr : w0.grownBy w (some g)
  glt : g < w0.heap.size
  kle : k ≤ (b.take f).length
def Names0 (w0 w w' : World) : Prop := ∀ v n xs, w.ownsRow (w0.heap.size + 1) 9 1 v n xs → w'.ownsRow (w0.heap.size + 1) 9 1 v n xs
theorem Names0.refl (w0 w : World) : Names0 w0 w w := fun _ _ _ h => h
theorem Names0.trans {w0 w w1 w2 : World} (h : Names0 w0 w w1) (h2 : Names0 w0 w1 w2) : Names0 w0 w w2 := fun v n xs h3 => h2 v n xs (h v n xs h3)
theorem Names0.below {w0 w w' : World} (h : Below w.heap.size w w') : Names0 w0 w w' := fun _ _ _ h3 => below_row h3 h
theorem Names0.grown {w0 w w' : World} {g : Nat} (h : w.grownBy w' (some g)) (hg : g ≤ w0.heap.size) : Names0 w0 w w' := fun _ _ _ h3 => row_apart h3 h (by omega)
theorem rows_apart {w : World} {B n m : Nat} {v u : Value} {xs ys : List Value} (h : w.ownsRow B 9 1 v n xs) (h2 : w.ownsRow B 5 1 u m ys) : v.ownBlock = none ∨ v.ownBlock ≠ u.ownBlock := by
  rcases h.2 with ⟨rfl, -⟩ | ⟨q, c, cur, rfl, -, hq, -⟩
  · exact .inl rfl
  · refine .inr fun e => ?_
    rcases h2.2 with ⟨rfl, -⟩ | ⟨q2, c2, cur2, rfl, -, hq2, -⟩
    · cases e
    · simp only [Value.ownBlock, Option.some.injEq] at e
      subst e
      rw [hq] at hq2
      injection hq2 with hq2
      injection hq2 with _ e _
      cases e
theorem HdR.below {S : Nat → Prop} {w0 w w' : World} {g : Nat} {b sc : List Int} {f N k : Nat} {v : Value} (h : HdR S w0 w g b sc f N k v) (hb : Below w.heap.size w w') : HdR S w0 w' g b sc f N k v :=
  ⟨h.src.below hb, h.box.later hb, below_row h.row hb, grown_trans h.gr (grown_below hb (some g)), h.glt, h.kle⟩
theorem HdR.read {S : Nat → Prop} {w0 w w' : World} {g : Nat} {b sc : List Int} {f N N' k : Nat} {v : Value} (h : HdR S w0 w g b sc f N k v) (hg : w.grownBy w' (some g)) (hs : LSrc (fun q => S q ∧ q < w0.heap.size) w' g b sc f N') : HdR S w0 w' g b sc f N' k v :=
  ⟨hs, h.box.grown hg (fun e => by injection e with e; have := h.glt; omega), row_apart h.row hg (by have := h.glt; omega), grown_trans h.gr hg, h.glt, h.kle⟩
theorem HdR.app {S : Nat → Prop} {w0 w w' : World} {g : Nat} {b sc : List Int} {f N k j : Nat} {v v' : Value} (h : HdR S w0 w g b sc f N k v) (hg : w.grownBy w' v.ownBlock)
    (hr : w'.ownsRow (w0.heap.size + 1) 5 1 v' j (((b.take f).take j).map (Value.int .u8))) (hj : j ≤ (b.take f).length) : HdR S w0 (w'.setCell ⟨w0.heap.size, 1, none⟩ v') g b sc f N j v' ∧ Names0 w0 w (w'.setCell ⟨w0.heap.size, 1, none⟩ v') := by
  have hv : ∀ q, v.ownBlock = some q → w0.heap.size < q := fun q hq => by have := (h.row.lt q hq).1; omega
  have hb2 := h.box.grown hg (fun e => by have := hv _ e.symm; omega)
  refine ⟨⟨src_box (src_row h.src h.glt hg hv) h.glt _ _, hb2.set 1 v' (by simp), row_apart hr (grown_cell w' ⟨w0.heap.size, 1, none⟩ v') (Nat.lt_succ_self _), grown_box (grown_row h.gr hg hv) _ _, h.glt, hj⟩, fun u n xs h3 => ?_⟩
  exact row_apart (h3.kept hg (rows_apart h3 h.row)) (grown_cell w' ⟨w0.heap.size, 1, none⟩ v') (Nat.lt_succ_self _)
def readAt (w : World) (q : Nat) : Nat := match w.cell? ⟨q, 1, none⟩ with
  | some (.slice _ n _) => n
  | _ => 0
def GotPart (S : Nat → Prop) (w0 w : World) (g : Nat) (b sc : List Int) (f N k m : Nat) (e : Ending) (w' : World) : Prop :=
  ∃ u v' N' k', e = .returned (.tuple #[u, .int .i64 ((if k + m ≤ (b.take f).length then 0 else missE b.length f : Nat) : Int)]) ∧ HdR S w0 w' g b sc f N' k' v' ∧ N' + k ≤ N + k' ∧ k ≤ k' ∧ k' ≤ k + m ∧ Names0 w0 w w' ∧
    (k + m ≤ (b.take f).length → k' = k + m ∧ ∃ A c, u = .slice A m c ∧ m ≤ c ∧ c ≤ maxLen ∧ Rd .u8 w' A m (((b.take f).drop k).take m)) ∧ (¬ k + m ≤ (b.take f).length → u = .slice none 0 0)

set_option maxHeartbeats 8000000 in
set_option maxRecDepth 100000 in
theorem landPart (S : Nat → Prop) (w0 w : World) (g : Nat) (b sc : List Int) (f N k m : Nat) (v : Value) (h : HdR S w0 w g b sc f N k v) (hN : N ≤ 4611686018427400000) (hk : k ≤ 100000) (hm : 1 ≤ m ∧ m ≤ 16) (hM : b.length ≤ 140737488357232) :
    Calls Tryz.prog 62 #[.pointer (some ⟨w0.heap.size, 0, none⟩), .int .i64 (m : Nat)] w (GotPart S w0 w g b sc f N k m) := by
  have q63 : maxLen = 9223372036854775807 := rfl
  obtain ⟨i0, hi, hz0, hz1, hz2⟩ := info_parts infoB
  obtain ⟨hm1, hm2⟩ := hm
  have hf := h.src.le
  have HBY := Lib.hid (show ∀ z ∈ b.take f, (Lit.int .u8 z).wf = true from lsrc_bytes h.src)
  have hkle := h.kle
  obtain ⟨A, c, rfl, hkc, hcm, -, hAb⟩ := own_slice h.row
  have z1 := h.box.cell 1 rfl
  obtain ⟨hb, hhb⟩ : ∃ hb, w0.heap.size = hb := ⟨_, rfl⟩
  have HH := Lib.hid h
  have HHB := Lib.hid hhb
  rw [hhb] at z1 ⊢
  clear h hAb hhb
  go_enter Tryz.func62, Tryz.ntmps62
  go_wp2_with fail
  go_loopw [] (fun wr => ∃ (j N' : Nat) (v' : Value), k ≤ j ∧ j ≤ k + m ∧ N' + k ≤ N + j ∧ HdR S w0 wr g b sc f N' j v' ∧ Names0 w0 w wr) (fun wr => k + m - readAt wr hb)
  case atStart => exact ⟨k, N, _, Nat.le_refl _, by omega, by omega, HH.out, Names0.refl _ _⟩
  case round =>
    obtain ⟨j, N', v', hj1, hj2, hN', hhd, hnm⟩ := hrel
    obtain ⟨A2, c2, rfl, hjc, hcm2, -, -⟩ := own_slice hhd.row
    have y0 := hhd.box.cell 0 rfl
    have y1 := hhd.box.cell 1 rfl
    rw [HHB.out] at y0 y1
    have HRA := Lib.hid (show readAt wr hb = j by unfold readAt; rw [y1])
    have hglt := hhd.glt
    have hjx := hhd.kle
    have HHR := Lib.hid hhd
    have HNM := Lib.hid hnm
    clear hhd hnm z1
    by_cases hlt : j < k + m
    rotate_left
    · obtain rfl : j = k + m := by omega
      have hlt' : ¬ (((k + m : Nat) : Int) < (k : Int) + (m : Int)) := by omega
      have hlt2 : ¬ ((k : Int) + (m : Int) < (k : Int) + (m : Int)) := by omega
      have hkc2 : (k : Int) ≤ (k : Int) + (m : Int) := by omega
      have hsl := slice_from (P := Tryz.prog) 28 (by kernel_rfl) 1 (by kernel_rfl) A2 (k + m) c2 k (by omega)
      have hwf : ∀ z ∈ (b.take f).take (k + m), (Lit.int .u8 z).wf = true := fun z hz => HBY.out z (List.mem_of_mem_take hz)
      have hrd := rd_from (p := k) (Rd.own HHR.out.row hwf) hjc (by omega) (by omega)
      rw [show k + m - k = m by omega, List.drop_take, show k + m - k = m by omega] at hrd
      rw [show k + m - k = m by omega] at hsl
      obtain ⟨A7, hA7⟩ : ∃ A7, fromAddr A2 c2 k 1 = A7 := ⟨_, rfl⟩
      rw [hA7] at hrd hsl
      have HRD := Lib.hid hrd
      clear hrd hwf hA7
      go_wp2_with fail
      refine bodyPost_ret (v := .tuple #[.slice A7 m (c2 - k), .int .i64 0]) (by simp [results, Tryz.results62, go_sem]) rfl ?_
      have hyes : k + m ≤ (b.take f).length := hjx
      exact ⟨_, _, N', k + m, by rw [if_pos hyes]; rfl, HHR.out, hN', hj1, hj2, HNM.out, fun _ => ⟨rfl, A7, c2 - k, rfl, by omega, by omega, HRD.out⟩, fun h => absurd hyes h⟩
    have hlt' : (j : Int) < (k : Int) + (m : Int) := by omega
    obtain ⟨V, hV⟩ : ∃ V, wr.drew = V := ⟨_, rfl⟩
    have HHV := Lib.hid (show HdR S w0 V g b sc f N' j (.slice A2 j c2) by rw [← hV]; exact HHR.out.below ((Below.refl _ wr).drew))
    have HNV := Lib.hid (show Names0 w0 w V by rw [← hV]; exact HNM.out.trans (Names0.below ((Below.refl _ wr).drew)))
    have FR := landRead (fun q => S q ∧ q < w0.heap.size) g b sc f N' (j : Int) ((k : Int) + (m : Int) - (j : Int)) V HHV.out.src (by omega) ⟨by omega, by omega⟩ ⟨by omega, by omega⟩ (by omega)
    have HMO := Lib.hid (part_more (b := b) (f := f) (j := j) sc N' (m := (k : Int) + (m : Int) - (j : Int)) hf hjx)
    have HST := Lib.hid (fun r h1 h2 => part_stop (b := b) (f := f) (j := j) (r := r) (m := (k : Int) + (m : Int) - (j : Int)) hf hjx (by omega) h1 h2)
    obtain ⟨r, hr⟩ : ∃ r, readE b.length f (j : Int) ((k : Int) + (m : Int) - (j : Int)) = r := ⟨_, rfl⟩
    rw [hr] at FR
    have HFR := Lib.hid FR
    have HRR := Lib.hid hr
    clear FR hr
    go_wp2_with fail
    refine wp_region_held_drew (S := fun W => W.cell? ⟨hb, 0, none⟩ = some (.pointer (some ⟨g, 0, none⟩)) ∧ W.cell? ⟨hb, 1, none⟩ = some (.slice A2 j c2)) (by kernel_rfl) (by exact ⟨y0, y1⟩) (fun hHeld => ?_)
    rw [hV] at hHeld ⊢
    clear hV y0 y1 HHR HNM
    refine wpAnyH_take (i := 0) (oi := ?tko1) (v := ?tkv1) ?tkh1 (by kernel_rfl) (by kernel_rfl) (by kernel_rfl) ?tkq1 ?tky1 hHeld ?tkr1
    case tkh1 => (simp only [List.getElem?_toArray, List.getElem?_cons_zero]; rfl)
    case tkq1 => exact fun _ _ _ h => h
    case tky1 => exact Or.inl ⟨by rfl, by intro wSw hSw; (try dsimp only at hSw); go_simp; try with_reducible rfl⟩
    try simp only [Act.put, List.setIfInBounds_toArray, List.set_cons_zero, List.set_cons_succ]
    refine wpAnyH_take (i := 1) (oi := ?tko2) (v := ?tkv2) ?tkh2 (by kernel_rfl) (by kernel_rfl) (by kernel_rfl) ?tkq2 ?tky2 hHeld ?tkr2
    case tkh2 => (simp only [List.getElem?_toArray, List.getElem?_cons_succ, List.getElem?_cons_zero]; rfl)
    case tkq2 => exact fun _ _ _ h => h
    case tky2 => exact Or.inl ⟨by rfl, by intro wSw hSw; (try dsimp only at hSw); go_simp; try with_reducible rfl⟩
    try simp only [Act.put, List.setIfInBounds_toArray, List.set_cons_zero, List.set_cons_succ]
    refine wpAnyH_take (i := 2) (oi := ?tko3) (v := ?tkv3) ?tkh3 (by kernel_rfl) (by kernel_rfl) (by kernel_rfl) ?tkq3 ?tky3 hHeld ?tkr3
    case tkh3 => (simp only [List.getElem?_toArray, List.getElem?_cons_succ, List.getElem?_cons_zero]; rfl)
    case tkq3 => exact fun _ _ _ h => h
    case tky3 => exact Or.inl ⟨by rfl, by intro wSw hSw; (try dsimp only at hSw); go_simp; try with_reducible rfl⟩
    try simp only [Act.put, List.setIfInBounds_toArray, List.set_cons_zero, List.set_cons_succ]
    refine wpAnyH_take (i := 3) (oi := ?tko4) (v := ?tkv4) ?tkh4 (by kernel_rfl) (by kernel_rfl) (by kernel_rfl) ?tkq4 ?tky4 hHeld ?tkr4
    case tkh4 => (simp only [List.getElem?_toArray, List.getElem?_cons_succ, List.getElem?_cons_zero]; rfl)
    case tkq4 => exact fun _ _ _ h => h
    case tky4 => exact Or.inl ⟨by rfl, by intro wSw hSw; (try dsimp only at hSw); go_simp; try with_reducible rfl⟩
    try simp only [Act.put, List.setIfInBounds_toArray, List.set_cons_zero, List.set_cons_succ]
    refine wpAnyH_take (i := 4) (oi := ?tko5) (v := ?tkv5) ?tkh5 (by kernel_rfl) (by kernel_rfl) (by kernel_rfl) ?tkq5 ?tky5 hHeld ?tkr5
    case tkh5 => (simp only [List.getElem?_toArray, List.getElem?_cons_succ, List.getElem?_cons_zero]; rfl)
    case tkq5 => exact fun _ _ _ h => h
    case tky5 => exact Or.inl ⟨by rfl, by intro wSw hSw; (try dsimp only at hSw); go_simp; try with_reducible rfl⟩
    try simp only [Act.put, List.setIfInBounds_toArray, List.set_cons_zero, List.set_cons_succ]
    refine wpAnyH_take (i := 5) (oi := ?tko6) (v := ?tkv6) ?tkh6 (by kernel_rfl) (by kernel_rfl) (by kernel_rfl) ?tkq6 ?tky6 hHeld ?tkr6
    case tkh6 => (simp only [List.getElem?_toArray, List.getElem?_cons_succ, List.getElem?_cons_zero]; rfl)
    case tkq6 => exact fun _ _ _ h => h
    case tky6 => exact Or.inl ⟨by rfl, by intro wSw hSw; (try dsimp only at hSw); go_simp; try with_reducible rfl⟩
    try simp only [Act.put, List.setIfInBounds_toArray, List.set_cons_zero, List.set_cons_succ]
    refine wpAnyH_take (i := 6) (oi := ?tko7) (v := ?tkv7) ?tkh7 (by kernel_rfl) (by kernel_rfl) (by kernel_rfl) ?tkq7 ?tky7 hHeld ?tkr7
    case tkh7 => (simp only [List.getElem?_toArray, List.getElem?_cons_succ, List.getElem?_cons_zero]; rfl)
    case tkq7 => exact fun _ _ _ h => h
    case tky7 => exact Or.inl ⟨by rfl, by intro wSw hSw; (try dsimp only at hSw); go_simp; try with_reducible rfl⟩
    try simp only [Act.put, List.setIfInBounds_toArray, List.set_cons_zero, List.set_cons_succ]
    refine wpAnyH_take (i := 7) (oi := ?tko8) (v := ?tkv8) ?tkh8 (by kernel_rfl) (by kernel_rfl) (by kernel_rfl) ?tkq8 ?tky8 hHeld ?tkr8
    case tkh8 => (simp only [List.getElem?_toArray, List.getElem?_cons_succ, List.getElem?_cons_zero]; rfl)
    case tkq8 => exact fun _ _ _ h => h
    case tky8 => exact Or.inl ⟨by rfl, by intro wSw hSw; (try dsimp only at hSw); go_simp; try with_reducible rfl⟩
    try simp only [Act.put, List.setIfInBounds_toArray, List.set_cons_zero, List.set_cons_succ]
    refine wpAnyH_take (i := 8) (oi := ?tko9) (v := ?tkv9) ?tkh9 (by kernel_rfl) (by kernel_rfl) (by kernel_rfl) ?tkq9 ?tky9 hHeld ?tkr9
    case tkh9 => (simp only [List.getElem?_toArray, List.getElem?_cons_succ, List.getElem?_cons_zero]; rfl)
    case tkq9 => exact fun _ _ _ h => h
    case tky9 => exact Or.inl ⟨by rfl, by intro wSw hSw; (try dsimp only at hSw); go_simp; try with_reducible rfl⟩
    try simp only [Act.put, List.setIfInBounds_toArray, List.set_cons_zero, List.set_cons_succ]
    refine wpAnyH_take (i := 9) (oi := ?tko10) (v := ?tkv10) ?tkh10 (by kernel_rfl) (by kernel_rfl) (by kernel_rfl) ?tkq10 ?tky10 hHeld ?tkr10
    case tkh10 => (simp only [List.getElem?_toArray, List.getElem?_cons_succ, List.getElem?_cons_zero]; rfl)
    case tkq10 => exact fun _ _ _ h => h
    case tky10 => exact Or.inl ⟨by rfl, by intro wSw hSw; (try dsimp only at hSw); go_simp; try with_reducible rfl⟩
    try simp only [Act.put, List.setIfInBounds_toArray, List.set_cons_zero, List.set_cons_succ]
    refine wpAnyH_take (i := 10) (oi := ?tko11) (v := ?tkv11) ?tkh11 (by kernel_rfl) (by kernel_rfl) (by kernel_rfl) ?tkq11 ?tky11 hHeld ?tkr11
    case tkh11 => (simp only [List.getElem?_toArray, List.getElem?_cons_succ, List.getElem?_cons_zero]; rfl)
    case tkq11 => exact fun _ _ _ h => h
    case tky11 => exact Or.inl ⟨by rfl, by intro wSw hSw; (try dsimp only at hSw); go_simp; try with_reducible rfl⟩
    try simp only [Act.put, List.setIfInBounds_toArray, List.set_cons_zero, List.set_cons_succ]
    refine wpAnyH_take (i := 11) (oi := ?tko12) (v := ?tkv12) ?tkh12 (by kernel_rfl) (by kernel_rfl) (by kernel_rfl) ?tkq12 ?tky12 hHeld ?tkr12
    case tkh12 => (simp only [List.getElem?_toArray, List.getElem?_cons_succ, List.getElem?_cons_zero]; rfl)
    case tkq12 => exact fun _ _ _ h => h
    case tky12 => exact Or.inl ⟨by rfl, by intro wSw hSw; (try dsimp only at hSw); go_simp; try with_reducible rfl⟩
    try simp only [Act.put, List.setIfInBounds_toArray, List.set_cons_zero, List.set_cons_succ]
    refine wpAnyH_take (i := 12) (oi := ?tko13) (v := ?tkv13) ?tkh13 (by kernel_rfl) (by kernel_rfl) (by kernel_rfl) ?tkq13 ?tky13 hHeld ?tkr13
    case tkh13 => (simp only [List.getElem?_toArray, List.getElem?_cons_succ, List.getElem?_cons_zero]; rfl)
    case tkq13 => exact fun _ _ _ h => h
    case tky13 => exact Or.inl ⟨by rfl, by intro wSw hSw; (try dsimp only at hSw); go_simp; try with_reducible rfl⟩
    try simp only [Act.put, List.setIfInBounds_toArray, List.set_cons_zero, List.set_cons_succ]
    refine wpAnyH_take (i := 13) (oi := ?tko14) (v := ?tkv14) ?tkh14 (by kernel_rfl) (by kernel_rfl) (by kernel_rfl) ?tkq14 ?tky14 hHeld ?tkr14
    case tkh14 => (simp only [List.getElem?_toArray, List.getElem?_cons_succ, List.getElem?_cons_zero]; rfl)
    case tkq14 => exact fun _ _ _ h => h
    case tky14 => exact Or.inl ⟨by rfl, by intro wSw hSw; (try dsimp only at hSw); go_simp; try with_reducible rfl⟩
    try simp only [Act.put, List.setIfInBounds_toArray, List.set_cons_zero, List.set_cons_succ]
    refine wpAnyH_take (i := 14) (oi := ?tko15) (v := ?tkv15) ?tkh15 (by kernel_rfl) (by kernel_rfl) (by kernel_rfl) ?tkq15 ?tky15 hHeld ?tkr15
    case tkh15 => (simp only [List.getElem?_toArray, List.getElem?_cons_succ, List.getElem?_cons_zero]; rfl)
    case tkq15 => exact fun _ _ _ h => h
    case tky15 => exact Or.inl ⟨by rfl, by intro wSw hSw; (try dsimp only at hSw); go_simp; try with_reducible rfl⟩
    try simp only [Act.put, List.setIfInBounds_toArray, List.set_cons_zero, List.set_cons_succ]
    refine wpAnyH_take (i := 15) (oi := ?tko16) (v := ?tkv16) ?tkh16 (by kernel_rfl) (by kernel_rfl) (by kernel_rfl) ?tkq16 ?tky16 hHeld ?tkr16
    case tkh16 => (simp only [List.getElem?_toArray, List.getElem?_cons_succ, List.getElem?_cons_zero]; rfl)
    case tkq16 => exact fun _ _ _ h => h
    case tky16 => exact Or.inl ⟨by rfl, by intro wSw hSw; (try dsimp only at hSw); go_simp; try with_reducible rfl⟩
    try simp only [Act.put, List.setIfInBounds_toArray, List.set_cons_zero, List.set_cons_succ]
    have hwr : IntKind.i64.wrap ((k : Int) + (m : Int) - (j : Int)) = (k : Int) + (m : Int) - (j : Int) := IntWalk.i64_in _ (by omega)
    refine wpAnyH_ready (rs := [16]) (by kernel_rfl) (by simp) ?_
    refine AllReadyH.cons (o := ?tko17) ?tkh17 (fun Kt17 hKt17 => ?_) AllReadyH.nil
    case tkh17 => (simp only [List.getElem?_toArray, List.getElem?_cons_succ, List.getElem?_cons_zero]; rfl)
    go_simp
    (clear hwr; refine HFR.out.mono ?_; rintro e w3 ⟨v3, rfl, hown3, hs3, hgr3⟩; have hh3 := HHV.out.read hgr3 hs3; have y0 := hh3.box.cell 0 rfl; have y1 := hh3.box.cell 1 rfl; rw [HHB.out] at y0 y1)
    refine hKt17.out _ _ ?_ (fun hHt17 => ?_)
    · (exact ⟨y0, y1⟩)
    clear hKt17 Kt17 hHeld
    have hHeld := hHt17
    clear hHt17
    try simp only [Act.put, List.setIfInBounds_toArray, List.set_cons_zero, List.set_cons_succ]
    refine wpAnyH_take (i := 17) (oi := ?tko18) (v := ?tkv18) ?tkh18 (by kernel_rfl) (by kernel_rfl) (by kernel_rfl) ?tkq18 ?tky18 hHeld ?tkr18
    case tkh18 => (simp only [List.getElem?_toArray, List.getElem?_cons_succ, List.getElem?_cons_zero]; rfl)
    case tkq18 => exact fun _ _ _ h => h
    case tky18 => exact Or.inl ⟨by rfl, by intro wSw hSw; (try dsimp only at hSw); go_simp; try with_reducible rfl⟩
    try simp only [Act.put, List.setIfInBounds_toArray, List.set_cons_zero, List.set_cons_succ]
    refine wpAnyH_take (i := 18) (oi := ?tko19) (v := ?tkv19) ?tkh19 (by kernel_rfl) (by kernel_rfl) (by kernel_rfl) ?tkq19 ?tky19 hHeld ?tkr19
    case tkh19 => (simp only [List.getElem?_toArray, List.getElem?_cons_succ, List.getElem?_cons_zero]; rfl)
    case tkq19 => exact fun _ _ _ h => h
    case tky19 => exact Or.inl ⟨by rfl, by intro wSw hSw; (try dsimp only at hSw); go_simp; try with_reducible rfl⟩
    try simp only [Act.put, List.setIfInBounds_toArray, List.set_cons_zero, List.set_cons_succ]
    refine wpAnyH_take (i := 19) (oi := ?tko20) (v := ?tkv20) ?tkh20 (by kernel_rfl) (by kernel_rfl) (by kernel_rfl) ?tkq20 ?tky20 hHeld ?tkr20
    case tkh20 => (simp only [List.getElem?_toArray, List.getElem?_cons_succ, List.getElem?_cons_zero]; rfl)
    case tkq20 => exact fun _ _ _ h => h
    case tky20 => exact Or.inl ⟨by rfl, by intro wSw hSw; (try dsimp only at hSw); go_simp; try with_reducible rfl⟩
    try simp only [Act.put, List.setIfInBounds_toArray, List.set_cons_zero, List.set_cons_succ]
    refine wpAnyH_take (i := 20) (oi := ?tko21) (v := ?tkv21) ?tkh21 (by kernel_rfl) (by kernel_rfl) (by kernel_rfl) ?tkq21 ?tky21 hHeld ?tkr21
    case tkh21 => (simp only [List.getElem?_toArray, List.getElem?_cons_succ, List.getElem?_cons_zero]; rfl)
    case tkq21 => exact fun _ _ _ h => h
    case tky21 => exact Or.inl ⟨by rfl, by intro wSw hSw; (try dsimp only at hSw); go_simp; try with_reducible rfl⟩
    try simp only [Act.put, List.setIfInBounds_toArray, List.set_cons_zero, List.set_cons_succ]
    refine wpAnyH_take (i := 21) (oi := ?tko22) (v := ?tkv22) ?tkh22 (by kernel_rfl) (by kernel_rfl) (by kernel_rfl) ?tkq22 ?tky22 hHeld ?tkr22
    case tkh22 => (simp only [List.getElem?_toArray, List.getElem?_cons_succ, List.getElem?_cons_zero]; rfl)
    case tkq22 => exact fun _ _ _ h => h
    case tky22 => exact Or.inl ⟨by rfl, by intro wSw hSw; (try dsimp only at hSw); go_simp; try with_reducible rfl⟩
    try simp only [Act.put, List.setIfInBounds_toArray, List.set_cons_zero, List.set_cons_succ]
    refine wpAnyH_done (by kernel_rfl) ?_ _
    clear hHeld
    have HH3 := Lib.hid hh3
    have HN3 := Lib.hid (HNV.out.trans (Names0.grown hgr3 (by omega)))
    have HO3 := Lib.hid hown3
    have hsz3 := hgr3.size
    clear hh3 hgr3 hown3 hs3 HFR
    by_cases hr0 : r = 0
    · subst hr0
      obtain ⟨d, hd, happ, hjd, hd1, hd2⟩ := HMO.out HRR.out
      obtain ⟨A3, c3, rfl, -, -, -, -⟩ := own_slice HO3.out
      have HRM := Lib.hid (Rd.own HO3.out (fun z hz => HBY.out z (List.mem_of_mem_take (by rw [← happ]; exact List.mem_append_right _ hz))))
      have HAPP := Lib.hid happ
      have HR3 := Lib.hid HH3.out.row
      obtain ⟨rs, hrs⟩ : ∃ rs, readL b f sc N' (j : Int) ((k : Int) + (m : Int) - (j : Int)) = rs := ⟨_, rfl⟩
      rw [hrs] at HRM HAPP hd
      rw [hrs, hd]
      rw [hd] at HRM
      have hsw : w0.heap.size + 1 ≤ w3.heap.size := by have := HH3.out.box.1; omega
      clear HO3 happ hrs
      go_wp2_with (at_builtin; refine wpList_append_ints rfl _ _ 28 rfl .u8 (w0.heap.size + 1) 5 i0 1 Tryz.underlying28 hi hz0 hz1 hz2 _ _ _ rfl HR3.out _ _ _ rs rfl HRM.out (by omega) (by omega) hsw ?_; intro v6 w6 hown6 hgr6; obtain ⟨A6, c6, rfl, -, -, -, -⟩ := own_slice hown6; have hb6 := HH3.out.box.grown hgr6 (fun e => by have := (HR3.out.lt _ e.symm).1; omega); have y6 := hb6.cell 1 rfl; have t6 := hb6.fz 1 rfl; rw [HHB.out] at y6 t6)
      obtain ⟨happ2, hnn2⟩ := HH3.out.app (v' := .slice A6 (j + d) c6) hgr6 (by rw [← HAPP.out]; exact hown6) hjd
      rw [HHB.out] at happ2 hnn2
      go_roundw
      case rel => exact ⟨j + d, N' + 1, _, by omega, by omega, by omega, by have h := happ2; unfold Go.Proofs.YtimbbfneaaglbaaGreat.Src.readN at h; rw [HRR.out, if_pos rfl] at h; exact h, HN3.out.trans hnn2⟩
      case measure =>
        have e6 := happ2.box.cell 1 rfl
        rw [HHB.out] at e6
        have e7 : readAt (w6.setCell ⟨hb, 1, none⟩ (.slice A6 (j + d) c6)) hb = j + d := by unfold readAt; rw [e6]
        rw [e7, HRA.out]
        omega
    obtain ⟨hjX, hor⟩ := HST.out r HRR.out hr0
    have hno : ¬ k + m ≤ (b.take f).length := by omega
    have HE := Lib.hid (show (if k + m ≤ (b.take f).length then 0 else missE b.length f) = missE b.length f from if_neg hno)
    have HSN := Lib.hid (show HdR S w0 w3 g b sc f N' j (.slice A2 j c2) by have h := HH3.out; unfold Go.Proofs.YtimbbfneaaglbaaGreat.Src.readN at h; rw [HRR.out, if_neg hr0] at h; exact h)
    clear HH3 HO3 HMO HST
    rcases hor with ⟨rfl, hms⟩ | ⟨rfl, hms⟩
    · go_wp2_with fail
      refine bodyPost_ret (v := .tuple #[.slice none 0 0, .int .i64 5]) (by simp [results, Tryz.results62, go_sem]) rfl ?_
      exact ⟨_, _, N', j, by rw [HE.out, hms]; rfl, HSN.out, by omega, by omega, by omega, HN3.out, fun h => absurd h hno, fun _ => rfl⟩
    · go_wp2_with fail
      refine bodyPost_ret (v := .tuple #[.slice none 0 0, .int .i64 10]) (by simp [results, Tryz.results62, go_sem]) rfl ?_
      exact ⟨_, _, N', j, by rw [HE.out, hms]; rfl, HSN.out, by omega, by omega, by omega, HN3.out, fun h => absurd h hno, fun _ => rfl⟩

def GotCount (S : Nat → Prop) (w0 w : World) (g : Nat) (b sc : List Int) (f N : Nat) (e : Ending) (w' : World) : Prop :=
  ∃ v' N' k', e = .returned (.tuple #[.int .i64 ((if countE (b.take f) (missE b.length f) = 0 then byteAt (b.take f) 4 else 0 : Nat) : Int), .int .i64 ((countE (b.take f) (missE b.length f) : Nat) : Int)]) ∧ HdR S w0 w' g b sc f N' k' v' ∧ N' ≤ N + k' ∧ k' ≤ 5 ∧ Names0 w0 w w' ∧
    (countE (b.take f) (missE b.length f) = 0 → k' = 5)

set_option maxHeartbeats 8000000 in
set_option maxRecDepth 100000 in
theorem landCount (S : Nat → Prop) (w0 w : World) (g : Nat) (b sc : List Int) (f N : Nat) (v : Value) (h : HdR S w0 w g b sc f N 0 v) (hN : N ≤ 4611686018427400000) (hM : b.length ≤ 140737488357232) :
    Calls Tryz.prog 59 #[.pointer (some ⟨w0.heap.size, 0, none⟩)] w (GotCount S w0 w g b sc f N) := by
  have q63 : maxLen = 9223372036854775807 := rfl
  have hby := all_u8 (lsrc_bytes h.src)
  have FP := landPart S w0 w g b sc f N 0 5 v h hN (by omega) ⟨by omega, by omega⟩ hM
  rw [show ((5 : Nat) : Int) = 5 from rfl] at FP
  unfold GotPart at FP
  simp only [Nat.zero_add, Nat.add_zero, List.drop_zero] at FP
  obtain ⟨x, hx⟩ : ∃ x, b.take f = x := ⟨_, rfl⟩
  obtain ⟨ms, hms⟩ : ∃ ms, missE b.length f = ms := ⟨_, rfl⟩
  have hms0 : ms ≠ 0 := by rw [← hms]; exact miss_ne _ _
  rw [hx] at hby
  simp only [hx, hms] at FP
  have HX := Lib.hid hx
  have HMS := Lib.hid hms
  clear hx hms h
  by_cases h5 : 5 ≤ x.length
  rotate_left
  · have HC := Lib.hid (show countE x ms = ms by unfold countE; rw [if_pos (by omega)])
    rw [if_neg h5] at FP
    have HF := Lib.hid FP
    have hms' : ((ms : Int) == 0) = false := by simp; omega
    clear FP hby
    go_enter Tryz.func59, Tryz.ntmps59
    go_wp2_with fail
    refine HF.out.mono ?_
    rintro e w1 ⟨u, v', N', k', rfl, hh, hN', -, hk', hnm, -, hu⟩
    obtain rfl := hu h5
    have HH := Lib.hid hh
    clear hh
    go_wp2_with fail
    refine bodyPost_ret (v := .tuple #[.int .i64 0, .int .i64 (ms : Int)]) (by simp [results, Tryz.results59, go_sem]) rfl ?_
    unfold GotCount
    rw [HX.out, HMS.out]
    exact ⟨v', N', k', by rw [HC.out, if_neg hms0]; rfl, HH.out, hN', hk', hnm, fun e => absurd (HC.out.symm.trans e) hms0⟩
  rw [if_pos h5] at FP
  have HF := Lib.hid FP
  obtain ⟨hb4, hb4'⟩ := byte_bd hby 4
  obtain ⟨n, hn⟩ : ∃ n, byteAt x 4 = n := ⟨_, rfl⟩
  rw [hn] at hb4 hb4'
  have HNB := Lib.hid hn
  have HC := Lib.hid (show countE x ms = if x.take 4 ≠ [87, 71, 76, 1] ∨ 64 < n then 5 else 0 by unfold countE; rw [if_neg (by omega), hn])
  clear FP hby hn
  have kc := fun (w : World) (C : Array Value) (n c : Nat) => Lib.run_convert_bytes_const (P := Tryz.prog) w 28 5 C n c Tryz.underlying28 Tryz.underlying5
  go_enter Tryz.func59, Tryz.ntmps59
  go_wp2_with fail
  refine HF.out.mono ?_
  rintro e w1 ⟨u, v', N', k', rfl, hh, hN', -, -, hnm, hu, -⟩
  obtain ⟨rfl, A, c, rfl, h5c, hcm, hrd⟩ := hu h5
  obtain ⟨bb, off, rfl, hcell⟩ := hrd.cell (by omega)
  have x4 := hcell 4 (by omega)
  rw [show (x.take 5)[4]?.getD 0 = (n : Int) by rw [List.getElem?_take_of_lt (by omega)]; exact hb4'] at x4
  have hlen5 : (4 : Int) < 5 := by omega
  obtain ⟨w2, hw2⟩ : ∃ w2, w1.alloc (.cells #[.int .u8 87, .int .u8 71, .int .u8 76, .int .u8 1] 5 (4, 5)) = w2 := ⟨_, rfl⟩
  have hb2 : Below w1.heap.size w1 w2 := by rw [← hw2]; exact (Below.refl _ _).alloc (Nat.le_refl _) _
  have hr2 : Rd .u8 w2 (some ⟨w1.heap.size, 0, none⟩) 4 [87, 71, 76, 1] := by rw [← hw2]; exact Rd.lit w1 5 (4, 5) [87, 71, 76, 1] (by decide)
  have HP := Lib.hid (hasPrefix (some ⟨bb, off, none⟩) 5 c (x.take 5) (some ⟨w1.heap.size, 0, none⟩) 4 4 [87, 71, 76, 1] w2 h5c (by omega) (by omega) (hrd.below hb2) hr2)
  have HH2 := Lib.hid (hh.below hb2)
  have HN2 := Lib.hid (hnm.trans (Names0.below hb2))
  have HT := Lib.hid (show (x.take 5).take 4 = x.take 4 by rw [List.take_take, Nat.min_eq_left (by omega)])
  clear hb2 hr2 hh hnm hrd hcell hu HF
  go_wp2_with fail
  refine HP.out.mono ?_
  rintro e w3 ⟨rfl, rfl⟩
  clear x4 kc hw2 HP
  rw [HT.out]
  by_cases hmk : x.take 4 = [87, 71, 76, 1]
  rotate_left
  · have hd : decide (x.take 4 = [87, 71, 76, 1]) = false := decide_eq_false hmk
    have HC2 := Lib.hid (show countE x ms = 5 by rw [HC.out, if_pos (.inl hmk)])
    rw [hd]
    go_wp2_with fail
    refine bodyPost_ret (v := .tuple #[.int .i64 0, .int .i64 5]) (by simp [results, Tryz.results59, go_sem]) rfl ?_
    unfold GotCount
    rw [HX.out, HMS.out, HC2.out]
    exact ⟨v', N', 5, rfl, HH2.out, hN', Nat.le_refl _, HN2.out, fun _ => rfl⟩
  have hd : decide (x.take 4 = [87, 71, 76, 1]) = true := decide_eq_true hmk
  rw [hd]
  by_cases h64 : 64 < n
  · have h64' : (n : Int) > 64 := by omega
    have HC2 := Lib.hid (show countE x ms = 5 by rw [HC.out, if_pos (.inr h64)])
    go_wp2_with fail
    refine bodyPost_ret (v := .tuple #[.int .i64 0, .int .i64 5]) (by simp [results, Tryz.results59, go_sem]) rfl ?_
    unfold GotCount
    rw [HX.out, HMS.out, HC2.out]
    exact ⟨v', N', 5, rfl, HH2.out, hN', Nat.le_refl _, HN2.out, fun _ => rfl⟩
  have h64' : ¬ ((n : Int) > 64) := by omega
  have HC2 := Lib.hid (show countE x ms = 0 by rw [HC.out, if_neg (fun e => e.elim (fun e => e hmk) h64)])
  go_wp2_with fail
  refine bodyPost_ret (v := .tuple #[.int .i64 (n : Int), .int .i64 0]) (by simp [results, Tryz.results59, go_sem]) rfl ?_
  unfold GotCount
  rw [HX.out, HMS.out, HC2.out, if_pos rfl, HNB.out]
  exact ⟨v', N', 5, rfl, HH2.out, hN', Nat.le_refl _, HN2.out, fun _ => rfl⟩

def GotSpell (S : Nat → Prop) (w0 w : World) (g : Nat) (b sc : List Int) (f N k : Nat) (e : Ending) (w' : World) : Prop :=
  ∃ sb v' N' k', e = .returned (.tuple #[.string sb, .int .i64 ((spelE (b.take f) (missE b.length f) k : Nat) : Int)]) ∧ HdR S w0 w' g b sc f N' k' v' ∧ N' + k ≤ N + k' ∧ k ≤ k' ∧ Names0 w0 w w' ∧
    (spelE (b.take f) (missE b.length f) k = 0 → k' = k + 1 + byteAt (b.take f) k ∧ sb = strOfNums (((b.take f).drop (k + 1)).take (byteAt (b.take f) k)))

set_option maxHeartbeats 8000000 in
set_option maxRecDepth 100000 in
theorem landName (S : Nat → Prop) (w0 w : World) (g : Nat) (b sc : List Int) (f N k : Nat) (v : Value) (h : HdR S w0 w g b sc f N k v) (hN : N ≤ 4611686018427390000) (hk : k ≤ 90000) (hM : b.length ≤ 140737488357232) :
    Calls Tryz.prog 60 #[.pointer (some ⟨w0.heap.size, 0, none⟩)] w (GotSpell S w0 w g b sc f N k) := by
  have q63 : maxLen = 9223372036854775807 := rfl
  have hby := all_u8 (lsrc_bytes h.src)
  have FP := landPart S w0 w g b sc f N k 1 v h (by omega) (by omega) ⟨by omega, by omega⟩ hM
  have HPP := Lib.hid (fun W M j m v' hh h1 h2 h3 => landPart S w0 W g b sc f M j m v' hh h1 h2 h3 hM)
  rw [show ((1 : Nat) : Int) = 1 from rfl] at FP
  unfold GotPart at FP HPP
  obtain ⟨x, hx⟩ : ∃ x, b.take f = x := ⟨_, rfl⟩
  obtain ⟨ms, hms⟩ : ∃ ms, missE b.length f = ms := ⟨_, rfl⟩
  have hms0 : ms ≠ 0 := by rw [← hms]; exact miss_ne _ _
  rw [hx] at hby
  simp only [hx, hms] at FP HPP
  have HX := Lib.hid hx
  have HMS := Lib.hid hms
  clear hx hms h
  by_cases h1 : k + 1 ≤ x.length
  rotate_left
  · have HC := Lib.hid (show spelE x ms k = ms by unfold spelE; rw [if_pos (by omega)])
    rw [if_neg h1] at FP
    have HF := Lib.hid FP
    have hms' : ((ms : Int) == 0) = false := by simp; omega
    clear FP hby HPP
    go_enter Tryz.func60, Tryz.ntmps60
    go_wp2_with fail
    refine HF.out.mono ?_
    rintro e w1 ⟨u, v', N', k', rfl, hh, hN', hk1, hk2, hnm, -, hu⟩
    obtain rfl := hu h1
    have HH := Lib.hid hh
    clear hh
    go_wp2_with fail
    refine bodyPost_ret (v := .tuple #[.string { data := #[] }, .int .i64 (ms : Int)]) (by simp [results, Tryz.results60, go_sem]) rfl ?_
    unfold GotSpell
    rw [HX.out, HMS.out]
    exact ⟨_, v', N', k', by rw [HC.out], HH.out, hN', hk1, hnm, fun e => absurd (HC.out.symm.trans e) hms0⟩
  rw [if_pos h1] at FP
  have HF := Lib.hid FP
  obtain ⟨hb4, hb4'⟩ := byte_bd hby k
  obtain ⟨n, hn⟩ : ∃ n, byteAt x k = n := ⟨_, rfl⟩
  rw [hn] at hb4 hb4'
  have HNB := Lib.hid hn
  have HC := Lib.hid (show spelE x ms k = if n < 1 ∨ 16 < n then 5 else if x.length < k + 1 + n then ms else 0 by unfold spelE; rw [if_neg (by omega), hn])
  clear FP hby hn
  go_enter Tryz.func60, Tryz.ntmps60
  go_wp2_with fail
  refine HF.out.mono ?_
  rintro e w1 ⟨u, v', N', k', rfl, hh, hN', -, -, hnm, hu, -⟩
  obtain ⟨rfl, A, c, rfl, h1c, hcm, hrd⟩ := hu h1
  obtain ⟨bb, off, rfl, hcell⟩ := hrd.cell (by omega)
  have x0 := hcell 0 (by omega)
  rw [show ((x.drop k).take 1)[0]?.getD 0 = (n : Int) by rw [List.getElem?_take_of_lt (by omega), List.getElem?_drop]; exact hb4', Nat.add_zero] at x0
  have hlen1 : (0 : Int) < 1 := by omega
  have HH2 := Lib.hid hh
  have HN2 := Lib.hid hnm
  clear hh hnm hrd hcell hu HF
  by_cases hn1 : n < 1
  · have hn1' : (n : Int) < 1 := by omega
    have HC2 := Lib.hid (show spelE x ms k = 5 by rw [HC.out, if_pos (.inl hn1)])
    go_wp2_with fail
    refine bodyPost_ret (v := .tuple #[.string { data := #[] }, .int .i64 5]) (by simp [results, Tryz.results60, go_sem]) rfl ?_
    unfold GotSpell
    rw [HX.out, HMS.out, HC2.out]
    exact ⟨_, v', N', k + 1, rfl, HH2.out, hN', by omega, HN2.out, fun e => by cases e⟩
  have hn1' : ¬ ((n : Int) < 1) := by omega
  by_cases hn2 : 16 < n
  · have hn2' : (n : Int) > 16 := by omega
    have HC2 := Lib.hid (show spelE x ms k = 5 by rw [HC.out, if_pos (.inr hn2)])
    go_wp2_with fail
    refine bodyPost_ret (v := .tuple #[.string { data := #[] }, .int .i64 5]) (by simp [results, Tryz.results60, go_sem]) rfl ?_
    unfold GotSpell
    rw [HX.out, HMS.out, HC2.out]
    exact ⟨_, v', N', k + 1, rfl, HH2.out, hN', by omega, HN2.out, fun e => by cases e⟩
  have hn2' : ¬ ((n : Int) > 16) := by omega
  have FP2 := HPP.out w1 N' (k + 1) n v' HH2.out (by omega) (by omega) ⟨by omega, by omega⟩
  by_cases h3 : k + 1 + n ≤ x.length
  · rw [if_pos h3] at FP2
    have HF2 := Lib.hid FP2
    have HC2 := Lib.hid (show spelE x ms k = 0 by rw [HC.out, if_neg (by omega), if_neg (by omega)])
    clear FP2 HPP HC
    go_wp2_with fail
    refine HF2.out.mono ?_
    rintro e w2 ⟨u, v2, N2, k2, rfl, hh, hN2, hk1, -, hnm, hu, -⟩
    obtain ⟨rfl, A2, c2, rfl, -, -, hrd⟩ := hu h3
    have hcv := run_str (P := Tryz.prog) (W := w2) (c := c2) 28 5 9 Tryz.underlying28 Tryz.underlying5 Tryz.underlying9 hrd
    obtain ⟨sb, hsb⟩ : ∃ sb, strOfNums ((x.drop (k + 1)).take n) = sb := ⟨_, rfl⟩
    rw [hsb] at hcv
    have HSB := Lib.hid hsb
    have HH3 := Lib.hid hh
    have HN3 := Lib.hid (HN2.out.trans hnm)
    clear hh hnm hrd hu hsb HF2 x0 HH2 HN2
    go_wp2_with fail
    refine bodyPost_ret (v := .tuple #[.string sb, .int .i64 0]) (by simp [results, Tryz.results60, go_sem]) rfl ?_
    unfold GotSpell
    rw [HX.out, HMS.out, HC2.out, HNB.out]
    exact ⟨sb, v2, N2, k + 1 + n, rfl, HH3.out, by omega, by omega, HN3.out, fun _ => ⟨rfl, HSB.out.symm⟩⟩
  rw [if_neg h3] at FP2
  have HF2 := Lib.hid FP2
  have HC2 := Lib.hid (show spelE x ms k = ms by rw [HC.out, if_neg (by omega), if_pos (by omega)])
  clear FP2 HPP HC
  go_wp2_with fail
  refine HF2.out.mono ?_
  rintro e w2 ⟨u, v2, N2, k2, rfl, hh, hN2, hk1, -, hnm, -, hu⟩
  obtain rfl := hu h3
  have hcv := run_str (P := Tryz.prog) (W := w2) (c := 0) 28 5 9 Tryz.underlying28 Tryz.underlying5 Tryz.underlying9 (Rd.nil .u8 w2 none)
  obtain ⟨sb, hsb⟩ : ∃ sb, strOfNums [] = sb := ⟨_, rfl⟩
  rw [hsb] at hcv
  have HH3 := Lib.hid hh
  have HN3 := Lib.hid (HN2.out.trans hnm)
  clear hh hnm hu hsb HF2 x0 HH2 HN2
  go_wp2_with fail
  refine bodyPost_ret (v := .tuple #[.string sb, .int .i64 (ms : Int)]) (by simp [results, Tryz.results60, go_sem]) rfl ?_
  unfold GotSpell
  rw [HX.out, HMS.out, HC2.out]
  exact ⟨sb, v2, N2, k2, rfl, HH3.out, by omega, by omega, HN3.out, fun e => absurd e hms0⟩
end Go.Proofs.YtimbbfneaaglbaaGreat.Scan
