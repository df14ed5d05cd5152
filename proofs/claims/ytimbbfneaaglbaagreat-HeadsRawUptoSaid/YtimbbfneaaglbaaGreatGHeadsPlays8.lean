/-
  The walks of the reference's Has and Count, and of slices.Index of bools (stage 13). By an AI agent.
  The walk of the reference's Cells (stage 13). By an AI agent.
-/
import Derived.Test.YtimbbfneaaglbaaGreatGHeadsPlays7
namespace Go.Proofs.YtimbbfneaaglbaaGreat.Heads
open Go.RowKit Go.Proofs.YtimbbfneaaglbaaGreat.Ints Go.Proofs.YtimbbfneaaglbaaGreat.Mem Go.Proofs.YtimbbfneaaglbaaGreat.Trace Go.Proofs.YtimbbfneaaglbaaGreat.Record Go.Proofs.YtimbbfneaaglbaaGreat.Log Go.Proofs.YtimbbfneaaglbaaGreat.Src

theorem bool_cell {w : World} {base g cap : Nat} {e : TypeId} {hs : List (Option Nat)} (h : w.ownsRow base e 1 (.slice (some ⟨g, 0, none⟩) hs.length cap) hs.length (hs.map fun o => Value.bool o.isSome)) {j : Nat} {o : Option Nat} (hj : hs[j]? = some o) : w.cell? ⟨g, j, none⟩ = some (.bool o.isSome) := by
  obtain ⟨h1, h2⟩ := List.getElem?_eq_some_iff.1 hj
  rw [h.cellAt j (by omega), List.getElem?_map, hj]
  rfl

set_option maxHeartbeats 4000000 in
set_option maxRecDepth 100000 in
theorem refHas (w : World) (g : Nat) (D : Nat → Prop) (s : PS) (h : RP w g D s) (id : Int) (hid : small64 id) :
    Calls Tryz.prog 25 #[.pointer (some ⟨g, 0, none⟩), .int .i64 id] w fun e w' => e = .returned (.bool (headP s.hs id).isSome) ∧ w' = w := by
  have q63 : maxLen = 9223372036854775807 := rfl
  obtain ⟨hi1, hi2⟩ := hid
  obtain ⟨NA, nn, nc, EA, ne, ec, v1, v2, ats, h1, -, -, h4, -⟩ := h.ex
  obtain ⟨A, c, rfl, hc1, hc2, -, -⟩ := own_slice h4
  have x4 := h1.cell 4 rfl
  by_cases c1 : id < 0
  · have hE := Lib.hid (show headP s.hs id = none by unfold headP; rw [if_pos c1])
    have c1' : ¬ (id ≥ 0) := by omega
    clear h1 h4 h
    go_enter Tryz.func25, Tryz.ntmps25
    go_wp2
    go_ret
    exact ⟨by rw [hE.out]; rfl, rfl⟩
  have c1' : id ≥ 0 := by omega
  by_cases c2 : id.toNat < s.hs.length
  rotate_left
  · have hE := Lib.hid (show headP s.hs id = none by unfold headP; rw [if_neg c1, List.getD_eq_getElem?_getD, List.getElem?_eq_none (by omega)]; rfl)
    have c2' : ¬ (id < (s.hs.length : Int)) := by omega
    clear h1 h4 h
    go_enter Tryz.func25, Tryz.ntmps25
    go_wp2
    go_ret
    exact ⟨by rw [hE.out]; rfl, rfl⟩
  have c2' : id < (s.hs.length : Int) := by omega
  obtain ⟨g1, c1a, e1, -⟩ := own_form h4 (by omega)
  injection e1 with e1 _ e3
  subst e1; subst e3
  obtain ⟨o, ho⟩ : ∃ o, s.hs[id.toNat]? = some o := ⟨_, List.getElem?_eq_getElem c2⟩
  have xr := bool_cell h4 ho
  have hE := Lib.hid (show headP s.hs id = o by unfold headP; rw [if_neg c1, List.getD_eq_getElem?_getD, ho]; rfl)
  obtain ⟨k, rfl⟩ : ∃ k : Nat, id = (k : Int) := ⟨id.toNat, by omega⟩
  rw [Int.toNat_natCast] at xr
  clear h1 h4 h ho
  go_enter Tryz.func25, Tryz.ntmps25
  go_wp2
  go_ret
  exact ⟨by rw [hE.out]; rfl, rfl⟩

set_option maxHeartbeats 4000000 in
set_option maxRecDepth 100000 in
theorem refCount (w : World) (g : Nat) (D : Nat → Prop) (s : PS) (h : RP w g D s) :
    Calls Tryz.prog 22 #[.pointer (some ⟨g, 0, none⟩)] w fun e w' => e = .returned (.int .i64 (countP s.hs : Nat)) ∧ w' = w := by
  have q63 : maxLen = 9223372036854775807 := rfl
  obtain ⟨NA, nn, nc, EA, ne, ec, v1, v2, ats, h1, -, -, h4, -⟩ := h.ex
  obtain ⟨A, c, rfl, hc1, hc2, -, -⟩ := own_slice h4
  have x4 := h1.cell 4 rfl
  have HR := Lib.hid h4
  obtain ⟨hs, hhs⟩ : ∃ hs, s.hs = hs := ⟨_, rfl⟩
  rw [hhs] at hc1 x4 HR ⊢
  obtain ⟨n, hn⟩ : ∃ n, hs.length = n := ⟨_, rfl⟩
  have HC := Lib.hid (fun k (hk : k < n) => show ∃ o, hs[k]? = some o ∧ countP (hs.take (k + 1)) = countP (hs.take k) + (if o.isSome then 1 else 0) from by
    have hk2 : k < hs.length := by omega
    refine ⟨hs[k], List.getElem?_eq_getElem hk2, ?_⟩
    unfold countP
    rw [List.take_add_one, List.getElem?_eq_getElem hk2, List.countP_append]
    simp only [Option.toList_some, List.countP_singleton])
  have HT := Lib.hid (show hs.take n = hs from List.take_of_length_le (by omega))
  have HCL := Lib.hid (fun k => show countP (hs.take k) ≤ k from Nat.le_trans (count_le _) (by rw [List.length_take]; omega))
  have HN := Lib.hid hn
  rw [hn] at hc1 x4
  clear h1 h4 h hhs hn
  go_enter Tryz.func22, Tryz.ntmps22
  go_wp2
  go_loop [3, 11] (fun q i => ∃ k : Nat, k ≤ n ∧ i = .int .i64 (k : Nat) ∧ q = .int .i64 (countP (hs.take k) : Nat)) (fun _ i => n - (intOf i).toNat)
  case atStart => exact ⟨0, Nat.zero_le _, rfl, rfl⟩
  case round =>
    obtain ⟨k, hk, rfl, rfl⟩ := hrel
    have hcl := HCL.out k
    obtain ⟨m, hm⟩ : ∃ m, countP (hs.take k) = m := ⟨_, rfl⟩
    rw [hm] at hcl ⊢
    by_cases hkn : k < n
    · obtain ⟨o, ho, hnx⟩ := HC.out k hkn
      rw [hm] at hnx
      have hkn' : (k : Int) < (n : Int) := by omega
      obtain ⟨g1, c1a, e1, -⟩ := own_form HR.out (by rw [HN.out]; omega)
      injection e1 with e1 _ e3
      subst e1; subst e3
      have xr := bool_cell HR.out ho
      rcases o with _ | o
      · have HNX := Lib.hid hnx
        have xr : w.cell? ⟨g1, k, none⟩ = some (.bool false) := xr
        clear ho hnx hm
        go_wp2
        go_round
        case rel => exact ⟨k + 1, by omega, by go_num, by rw [HNX.out]; rfl⟩
        case measure => simp [intOf]; omega
      · have HNX := Lib.hid hnx
        have xr : w.cell? ⟨g1, k, none⟩ = some (.bool true) := xr
        clear ho hnx hm
        go_wp2
        go_round
        case rel => exact ⟨k + 1, by omega, by go_num, by rw [HNX.out]; exact int_eq (by simp)⟩
        case measure => simp [intOf]; omega
    · obtain rfl : k = n := by omega
      have hkn' : ¬ ((k : Int) < (k : Int)) := by omega
      have HM := Lib.hid (show m = countP hs by rw [← hm, HT.out])
      clear hm
      go_wp2
      go_ret
      exact ⟨by rw [HM.out]; rfl, rfl⟩
end Go.Proofs.YtimbbfneaaglbaaGreat.Heads

namespace Go.Proofs.YtimbbfneaaglbaaGreat.Heads
open Go.RowKit Go.Proofs.YtimbbfneaaglbaaGreat.Ints Go.Proofs.YtimbbfneaaglbaaGreat.Mem Go.Proofs.YtimbbfneaaglbaaGreat.Trace Go.Proofs.YtimbbfneaaglbaaGreat.Record Go.Proofs.YtimbbfneaaglbaaGreat.Log Go.Proofs.YtimbbfneaaglbaaGreat.Src

theorem int_cell {w : World} {base g cap n : Nat} {e : TypeId} {zs : List Int} (h : w.ownsRow base e 1 (.slice (some ⟨g, 0, none⟩) n cap) n (zs.map (Value.int .i64))) {j : Nat} {z : Int} (hj : zs[j]? = some z) : w.cell? ⟨g, j, none⟩ = some (.int .i64 z) := by
  have hl : zs.length = n := by simpa using h.1
  obtain ⟨h1, h2⟩ := List.getElem?_eq_some_iff.1 hj
  rw [h.cellAt j (by omega), List.getElem?_map, hj]
  rfl
/-- A cell of the pool is stored into. -/
theorem RP.peak {w : World} {g : Nat} {D : Nat → Prop} {s : PS} (h : RP w g D s) (k : Nat) : Turn w (w.setCell ⟨g, 6, none⟩ (.int .i64 (k : Nat))) g D { s with peak := k } := by
  obtain ⟨NA, nn, nc, EA, ne, ec, v1, v2, ats, h1, h2, h3, h4, h5, h6, h7, h8⟩ := h.ex
  have hgr := grown_cell w ⟨g, 6, none⟩ (.int .i64 (k : Nat))
  have hoff : ∀ q, q ≠ g → (w.setCell ⟨g, 6, none⟩ (.int .i64 (k : Nat))).heap[q]? = w.heap[q]? := fun q hq => Below.heap_setCell w ⟨g, 6, none⟩ _ q hq
  refine ⟨D, ⟨⟨NA, nn, nc, EA, ne, ec, v1, v2, ats, ?_, ?_, h3, own_at h4 (fun q hq => hoff q (by have := (h4.lt q hq).1; omega)), own_at h5 (fun q hq => hoff q (by have := (h5.lt q hq).1; omega)), h6, h7, h8⟩, h.dg, fun q hq => by have := h.lt q hq; simpa using this⟩, fun q hq => .inl hq, Left.of_grown hgr (fun q e => by injection e with e; subst e; exact h.dg)⟩
  · simpa using h1.set 6 (.int .i64 (k : Nat)) (by simp)
  · exact ⟨h2.1, h2.2, strs_at h2.3 (fun a e h0 => hoff _ (by have := (h3 a e h0).2; omega)), h2.4, h2.5.keep (fun p u hp hu => by rw [World.cell?_of_block (hoff p.block (by have := hp.2; omega))]; exact hu), h2.6, h2.7⟩

set_option maxHeartbeats 4000000 in
set_option maxRecDepth 100000 in
theorem refCells (w : World) (g : Nat) (D : Nat → Prop) (s : PS) (h : RP w g D s) (hok : AtP s) (hl : s.hs.length ≤ 1000000) (_hpk : s.peak ≤ 4611686018427387904) :
    Calls Tryz.prog 23 #[.pointer (some ⟨g, 0, none⟩)] w fun e w' => e = .returned (.int .i64 (cellsP s.t s.hs : Nat)) ∧ Turn w w' g D (meterP s) := by
  have q63 : maxLen = 9223372036854775807 := rfl
  obtain ⟨NA, nn, nc, EA, ne, ec, v1, v2, ats, h1, h2, h3, h4, h5, h6, h7, h8⟩ := h.ex
  obtain ⟨A, c, rfl, hc1, hc2, -, -⟩ := own_slice h4
  obtain ⟨B, d, rfl, hd1, hd2, -, -⟩ := own_slice h5
  have x1 := h1.cell 1 rfl
  have x4 := h1.cell 4 rfl
  have x5 := h1.cell 5 rfl
  have x6 := h1.cell 6 rfl
  have f6 := h1.fz 6 rfl
  have HR := Lib.hid h4
  have HI := Lib.hid h5
  have HAT := Lib.hid h6
  have HOK := Lib.hid hok
  have HEV := Lib.hid h2
  have HRP := Lib.hid h
  have HG := Lib.hid h1.1
  obtain ⟨hs, hhs⟩ : ∃ hs, s.hs = hs := ⟨_, rfl⟩
  have HHS := Lib.hid hhs
  rw [hhs] at hc1 hd1 hl x4 x5 HR HI HAT
  obtain ⟨n, hn⟩ : ∃ n, hs.length = n := ⟨_, rfl⟩
  have HN := Lib.hid hn
  have HCL := Lib.hid (fun k => show cellsP s.t (hs.take k) ≤ 67 * k by rw [← hhs]; exact cells_le hok k)
  rw [hn] at hc1 hd1 hl x4 x5 HI
  clear h1 h2 h3 h4 h5 h6 h7 h8 h hhs hn hok
  go_enter Tryz.func23, Tryz.ntmps23
  go_wp2
  go_loopw [3, 11] (fun q i wr => ∃ k : Nat, k ≤ n ∧ i = .int .i64 (k : Nat) ∧ q = .int .i64 (cellsP s.t (hs.take k) : Nat) ∧ Below w.heap.size w wr) (fun _ i _ => n - (intOf i).toNat)
  case atStart => exact ⟨0, Nat.zero_le _, rfl, rfl, Below.refl _ _⟩
  case round =>
    obtain ⟨k, hk, rfl, rfl, hB⟩ := hrel
    have hcl := HCL.out k
    obtain ⟨m, hm⟩ : ∃ m, cellsP s.t (hs.take k) = m := ⟨_, rfl⟩
    rw [hm] at hcl ⊢
    have HRB := Lib.hid (below_row HR.out hB)
    have HIB := Lib.hid (below_row HI.out hB)
    have x1 := below_cell hB x1
    have x5 := below_cell hB x5
    have x6 := below_cell hB x6
    have f6 := (World.frozen?_of_block (a := ⟨g, 6, none⟩) (hB.block g HG.out)).trans f6
    have HB := Lib.hid hB
    by_cases hkn : k < n
    · have hkn' : (k : Int) < (n : Int) := by omega
      have hk2 : k < hs.length := by rw [HN.out]; exact hkn
      obtain ⟨o, ho⟩ : ∃ o, hs[k]? = some o := ⟨_, List.getElem?_eq_getElem hk2⟩
      have hnx := cells_take s.t hs ho
      rw [hm] at hnx
      obtain ⟨g1, c1a, e1, -⟩ := own_form HR.out (by omega)
      injection e1 with e1 _ e3
      subst e1; subst e3
      have xr := bool_cell HRB.out ho
      rcases o with _ | j
      · have HNX := Lib.hid hnx
        have xr : wr.cell? ⟨g1, k, none⟩ = some (.bool false) := xr
        clear ho hnx hm x5 hB
        go_wp2
        go_roundw
        case rel => exact ⟨k + 1, by omega, by go_num, by rw [HNX.out]; rfl, HB.out⟩
        case measure => simp [intOf]; omega
      · have HNX := Lib.hid hnx
        have xr : wr.cell? ⟨g1, k, none⟩ = some (.bool true) := xr
        have hat := HAT.out k j ho
        obtain ⟨g2, c2a, e2, -⟩ := own_form HI.out (by omega)
        injection e2 with e2 _ e4
        subst e2; subst e4
        have xi := int_cell HIB.out hat
        have hje := HOK.out.at_ k j (by rw [HHS.out]; exact ho)
        have hkd : (k : Int) < (d : Int) := by omega
        rcases j with _ | j
        · have HNX2 := Lib.hid (show cellsP s.t (hs.take (k + 1)) = m + 3 by rw [HNX.out]; rfl)
          clear ho hnx hm hat hB
          go_wp2
          go_roundw
          case rel => exact ⟨k + 1, by omega, by go_num, by rw [HNX2.out]; rfl, HB.out⟩
          case measure => simp [intOf]; omega
        · have hj' : ((j + 1 : Nat) : Int) > 0 := by omega
          have hlen : j < s.t.events.length := by omega
          have he := List.getElem?_eq_getElem hlen
          have hne := HEV.out.elen
          have hec := HEV.out.ecap
          obtain ⟨b, off, K, ck, e5, -, y1, -⟩ := (HEV.out.below hB).evs.kids (k := j) hlen
          rw [show s.t.events.getD j noEv = s.t.events[j] by rw [List.getD_eq_getElem?_getD, he]; rfl] at y1
          have hids := HOK.out.ids _ (List.getElem_mem hlen)
          have HNX2 := Lib.hid (show cellsP s.t (hs.take (k + 1)) = m + 3 + s.t.events[j].ids.length by rw [HNX.out]; unfold cellP idsAt; simp only; rw [if_neg (by omega), Nat.add_sub_cancel, List.getD_eq_getElem?_getD, he]; simp only [Option.getD_some]; omega)
          obtain ⟨il, hil⟩ : ∃ il, s.t.events[j].ids.length = il := ⟨_, rfl⟩
          rw [hil] at hids y1 HNX2
          subst e5
          have hjn : (j : Int) < (ne : Int) := by omega
          have hwr : IntKind.i64.wrap (j : Int) = (j : Int) := IntWalk.i64_in _ (by omega)
          have hwr2 : IntKind.i64.wrap ((m : Int) + 3 + (il : Int)) = (m : Int) + 3 + (il : Int) := IntWalk.i64_in _ (by omega)
          clear ho hnx hm hat hB he hil
          go_wp2
          refine wp_region_held_drew (S := fun W => W.cell? ⟨g, 1, none⟩ = some (.slice (some ⟨b, off, none⟩) ne ec) ∧ W.cell? ⟨g, 5, none⟩ = some (.slice (some ⟨g2, 0, none⟩) n d) ∧ W.cell? ⟨g2, k, none⟩ = some (.int .i64 ((j + 1 : Nat) : Int)) ∧ W.cell? ⟨b, off + j * 2 + 1, none⟩ = some (.slice K il ck)) (by kernel_rfl) (by exact ⟨x1, x5, xi, y1⟩) (fun hHeld => ?_)
          refine wpAnyH_take (i := 0) (oi := ?tko1) (v := ?tkv1) ?tkh1 (by kernel_rfl) (by kernel_rfl) (by kernel_rfl) ?tkq1 ?tky1 hHeld ?tkr1
          case tkh1 => (simp only [List.getElem?_toArray, List.getElem?_cons_zero]; rfl)
          case tkq1 => exact fun _ _ _ h => h
          case tky1 => exact Or.inl ⟨by rfl, by intro wSw hSw; (try dsimp only at hSw); go_simp; try with_reducible rfl⟩
          try simp only [Act.put, List.setIfInBounds_toArray, List.set_cons_zero, List.set_cons_succ]
          refine wpAnyH_take (i := 1) (oi := ?tko2) (v := ?tkv2) ?tkh2 (by kernel_rfl) (by kernel_rfl) (by kernel_rfl) ?tkq2 ?tky2 hHeld ?tkr2
          case tkh2 => (simp only [List.getElem?_toArray, List.getElem?_cons_succ, List.getElem?_cons_zero]; rfl)
          case tkq2 => exact fun _ _ _ h => h
          case tky2 => exact Or.inl ⟨by rfl, by intro wSw hSw; (try dsimp only at hSw); go_simp; try with_reducible rfl⟩
          try simp only [Act.put, List.setIfInBounds_toArray, List.set_cons_zero, List.set_cons_succ]
          refine wpAnyH_take (i := 2) (oi := ?tko3) (v := ?tkv3) ?tkh3 (by kernel_rfl) (by kernel_rfl) (by kernel_rfl) ?tkq3 ?tky3 hHeld ?tkr3
          case tkh3 => (simp only [List.getElem?_toArray, List.getElem?_cons_succ, List.getElem?_cons_zero]; rfl)
          case tkq3 => exact fun _ _ _ h => h
          case tky3 => exact Or.inl ⟨by rfl, by intro wSw hSw; (try dsimp only at hSw); go_simp; try with_reducible rfl⟩
          try simp only [Act.put, List.setIfInBounds_toArray, List.set_cons_zero, List.set_cons_succ]
          refine wpAnyH_take (i := 3) (oi := ?tko4) (v := ?tkv4) ?tkh4 (by kernel_rfl) (by kernel_rfl) (by kernel_rfl) ?tkq4 ?tky4 hHeld ?tkr4
          case tkh4 => (simp only [List.getElem?_toArray, List.getElem?_cons_succ, List.getElem?_cons_zero]; rfl)
          case tkq4 => exact fun _ _ _ h => h
          case tky4 => exact Or.inl ⟨by rfl, by intro wSw hSw; (try dsimp only at hSw); go_simp; try with_reducible rfl⟩
          try simp only [Act.put, List.setIfInBounds_toArray, List.set_cons_zero, List.set_cons_succ]
          refine wpAnyH_take (i := 4) (oi := ?tko5) (v := ?tkv5) ?tkh5 (by kernel_rfl) (by kernel_rfl) (by kernel_rfl) ?tkq5 ?tky5 hHeld ?tkr5
          case tkh5 => (simp only [List.getElem?_toArray, List.getElem?_cons_succ, List.getElem?_cons_zero]; rfl)
          case tkq5 => exact fun _ _ _ h => h
          case tky5 => exact Or.inl ⟨by rfl, by intro wSw hSw; (try dsimp only at hSw); go_simp; try with_reducible rfl⟩
          try simp only [Act.put, List.setIfInBounds_toArray, List.set_cons_zero, List.set_cons_succ]
          refine wpAnyH_take (i := 5) (oi := ?tko6) (v := ?tkv6) ?tkh6 (by kernel_rfl) (by kernel_rfl) (by kernel_rfl) ?tkq6 ?tky6 hHeld ?tkr6
          case tkh6 => (simp only [List.getElem?_toArray, List.getElem?_cons_succ, List.getElem?_cons_zero]; rfl)
          case tkq6 => exact fun _ _ _ h => h
          case tky6 => exact Or.inl ⟨by rfl, by intro wSw hSw; (try dsimp only at hSw); go_simp; try with_reducible rfl⟩
          try simp only [Act.put, List.setIfInBounds_toArray, List.set_cons_zero, List.set_cons_succ]
          refine wpAnyH_take (i := 6) (oi := ?tko7) (v := ?tkv7) ?tkh7 (by kernel_rfl) (by kernel_rfl) (by kernel_rfl) ?tkq7 ?tky7 hHeld ?tkr7
          case tkh7 => (simp only [List.getElem?_toArray, List.getElem?_cons_succ, List.getElem?_cons_zero]; rfl)
          case tkq7 => exact fun _ _ _ h => h
          case tky7 => exact Or.inl ⟨by rfl, by intro wSw hSw; (try dsimp only at hSw); go_simp; try with_reducible rfl⟩
          try simp only [Act.put, List.setIfInBounds_toArray, List.set_cons_zero, List.set_cons_succ]
          refine wpAnyH_take (i := 7) (oi := ?tko8) (v := ?tkv8) ?tkh8 (by kernel_rfl) (by kernel_rfl) (by kernel_rfl) ?tkq8 ?tky8 hHeld ?tkr8
          case tkh8 => (simp only [List.getElem?_toArray, List.getElem?_cons_succ, List.getElem?_cons_zero]; rfl)
          case tkq8 => exact fun _ _ _ h => h
          case tky8 => exact Or.inl ⟨by rfl, by intro wSw hSw; (try dsimp only at hSw); go_simp; try with_reducible rfl⟩
          try simp only [Act.put, List.setIfInBounds_toArray, List.set_cons_zero, List.set_cons_succ]
          refine wpAnyH_take (i := 8) (oi := ?tko9) (v := ?tkv9) ?tkh9 (by kernel_rfl) (by kernel_rfl) (by kernel_rfl) ?tkq9 ?tky9 hHeld ?tkr9
          case tkh9 => (simp only [List.getElem?_toArray, List.getElem?_cons_succ, List.getElem?_cons_zero]; rfl)
          case tkq9 => exact fun _ _ _ h => h
          case tky9 => exact Or.inl ⟨by rfl, by intro wSw hSw; (try dsimp only at hSw); go_simp; try with_reducible rfl⟩
          try simp only [Act.put, List.setIfInBounds_toArray, List.set_cons_zero, List.set_cons_succ]
          refine wpAnyH_take (i := 9) (oi := ?tko10) (v := ?tkv10) ?tkh10 (by kernel_rfl) (by kernel_rfl) (by kernel_rfl) ?tkq10 ?tky10 hHeld ?tkr10
          case tkh10 => (simp only [List.getElem?_toArray, List.getElem?_cons_succ, List.getElem?_cons_zero]; rfl)
          case tkq10 => exact fun _ _ _ h => h
          case tky10 => exact Or.inl ⟨by rfl, by intro wSw hSw; (try dsimp only at hSw); go_simp; try with_reducible rfl⟩
          try simp only [Act.put, List.setIfInBounds_toArray, List.set_cons_zero, List.set_cons_succ]
          refine wpAnyH_take (i := 10) (oi := ?tko11) (v := ?tkv11) ?tkh11 (by kernel_rfl) (by kernel_rfl) (by kernel_rfl) ?tkq11 ?tky11 hHeld ?tkr11
          case tkh11 => (simp only [List.getElem?_toArray, List.getElem?_cons_succ, List.getElem?_cons_zero]; rfl)
          case tkq11 => exact fun _ _ _ h => h
          case tky11 => exact Or.inl ⟨by rfl, by intro wSw hSw; (try dsimp only at hSw); go_simp; try with_reducible rfl⟩
          try simp only [Act.put, List.setIfInBounds_toArray, List.set_cons_zero, List.set_cons_succ]
          refine wpAnyH_take (i := 11) (oi := ?tko12) (v := ?tkv12) ?tkh12 (by kernel_rfl) (by kernel_rfl) (by kernel_rfl) ?tkq12 ?tky12 hHeld ?tkr12
          case tkh12 => (simp only [List.getElem?_toArray, List.getElem?_cons_succ, List.getElem?_cons_zero]; rfl)
          case tkq12 => exact fun _ _ _ h => h
          case tky12 => exact Or.inl ⟨by rfl, by intro wSw hSw; (try dsimp only at hSw); go_simp; try with_reducible rfl⟩
          try simp only [Act.put, List.setIfInBounds_toArray, List.set_cons_zero, List.set_cons_succ]
          refine wpAnyH_take (i := 12) (oi := ?tko13) (v := ?tkv13) ?tkh13 (by kernel_rfl) (by kernel_rfl) (by kernel_rfl) ?tkq13 ?tky13 hHeld ?tkr13
          case tkh13 => (simp only [List.getElem?_toArray, List.getElem?_cons_succ, List.getElem?_cons_zero]; rfl)
          case tkq13 => exact fun _ _ _ h => h
          case tky13 => exact Or.inl ⟨by rfl, by intro wSw hSw; (try dsimp only at hSw); go_simp; try with_reducible rfl⟩
          try simp only [Act.put, List.setIfInBounds_toArray, List.set_cons_zero, List.set_cons_succ]
          refine wpAnyH_take (i := 13) (oi := ?tko14) (v := ?tkv14) ?tkh14 (by kernel_rfl) (by kernel_rfl) (by kernel_rfl) ?tkq14 ?tky14 hHeld ?tkr14
          case tkh14 => (simp only [List.getElem?_toArray, List.getElem?_cons_succ, List.getElem?_cons_zero]; rfl)
          case tkq14 => exact fun _ _ _ h => h
          case tky14 => exact Or.inl ⟨by rfl, by intro wSw hSw; (try dsimp only at hSw); go_simp; try with_reducible rfl⟩
          try simp only [Act.put, List.setIfInBounds_toArray, List.set_cons_zero, List.set_cons_succ]
          refine wpAnyH_take (i := 14) (oi := ?tko15) (v := ?tkv15) ?tkh15 (by kernel_rfl) (by kernel_rfl) (by kernel_rfl) ?tkq15 ?tky15 hHeld ?tkr15
          case tkh15 => (simp only [List.getElem?_toArray, List.getElem?_cons_succ, List.getElem?_cons_zero]; rfl)
          case tkq15 => exact fun _ _ _ h => h
          case tky15 => exact Or.inl ⟨by rfl, by intro wSw hSw; (try dsimp only at hSw); go_simp; try with_reducible rfl⟩
          try simp only [Act.put, List.setIfInBounds_toArray, List.set_cons_zero, List.set_cons_succ]
          refine wpAnyH_take (i := 15) (oi := ?tko16) (v := ?tkv16) ?tkh16 (by kernel_rfl) (by kernel_rfl) (by kernel_rfl) ?tkq16 ?tky16 hHeld ?tkr16
          case tkh16 => (simp only [List.getElem?_toArray, List.getElem?_cons_succ, List.getElem?_cons_zero]; rfl)
          case tkq16 => exact fun _ _ _ h => h
          case tky16 => exact Or.inl ⟨by rfl, by intro wSw hSw; (try dsimp only at hSw); go_simp; try with_reducible rfl⟩
          try simp only [Act.put, List.setIfInBounds_toArray, List.set_cons_zero, List.set_cons_succ]
          refine wpAnyH_take (i := 16) (oi := ?tko17) (v := ?tkv17) ?tkh17 (by kernel_rfl) (by kernel_rfl) (by kernel_rfl) ?tkq17 ?tky17 hHeld ?tkr17
          case tkh17 => (simp only [List.getElem?_toArray, List.getElem?_cons_succ, List.getElem?_cons_zero]; rfl)
          case tkq17 => exact fun _ _ _ h => h
          case tky17 => exact Or.inl ⟨by rfl, by intro wSw hSw; (try dsimp only at hSw); go_simp; try with_reducible rfl⟩
          try simp only [Act.put, List.setIfInBounds_toArray, List.set_cons_zero, List.set_cons_succ]
          refine wpAnyH_take (i := 17) (oi := ?tko18) (v := ?tkv18) ?tkh18 (by kernel_rfl) (by kernel_rfl) (by kernel_rfl) ?tkq18 ?tky18 hHeld ?tkr18
          case tkh18 => (simp only [List.getElem?_toArray, List.getElem?_cons_succ, List.getElem?_cons_zero]; rfl)
          case tkq18 => exact fun _ _ _ h => h
          case tky18 => exact Or.inl ⟨by rfl, by intro wSw hSw; (try dsimp only at hSw); go_simp; try with_reducible rfl⟩
          try simp only [Act.put, List.setIfInBounds_toArray, List.set_cons_zero, List.set_cons_succ]
          refine wpAnyH_take (i := 18) (oi := ?tko19) (v := ?tkv19) ?tkh19 (by kernel_rfl) (by kernel_rfl) (by kernel_rfl) ?tkq19 ?tky19 hHeld ?tkr19
          case tkh19 => (simp only [List.getElem?_toArray, List.getElem?_cons_succ, List.getElem?_cons_zero]; rfl)
          case tkq19 => exact fun _ _ _ h => h
          case tky19 => exact Or.inl ⟨by rfl, by intro wSw hSw; (try dsimp only at hSw); go_simp; try with_reducible rfl⟩
          try simp only [Act.put, List.setIfInBounds_toArray, List.set_cons_zero, List.set_cons_succ]
          refine wpAnyH_take (i := 19) (oi := ?tko20) (v := ?tkv20) ?tkh20 (by kernel_rfl) (by kernel_rfl) (by kernel_rfl) ?tkq20 ?tky20 hHeld ?tkr20
          case tkh20 => (simp only [List.getElem?_toArray, List.getElem?_cons_succ, List.getElem?_cons_zero]; rfl)
          case tkq20 => exact fun _ _ _ h => h
          case tky20 => exact Or.inl ⟨by rfl, by intro wSw hSw; (try dsimp only at hSw); go_simp; try with_reducible rfl⟩
          try simp only [Act.put, List.setIfInBounds_toArray, List.set_cons_zero, List.set_cons_succ]
          refine wpAnyH_done (by kernel_rfl) ?_ _
          clear hHeld
          go_wp2
          go_roundw
          case rel => exact ⟨k + 1, by omega, by go_num, by rw [HNX2.out]; exact int_eq (by omega), HB.out.drew⟩
          case measure => simp [intOf]; omega
    · obtain rfl : k = n := by omega
      have hkn' : ¬ ((k : Int) < (k : Int)) := by omega
      have HM := Lib.hid (show m = cellsP s.t s.hs by rw [← hm, HHS.out, List.take_of_length_le (by rw [HN.out]; exact Nat.le_refl _)])
      clear hm
      go_wp2
      go_ret
      refine ⟨by rw [HM.out]; rfl, ?_⟩
      have h2 := ((Turn.refl HRP.out).below HB.out).trans fun D' h3 => h3.peak (max s.peak m)
      rw [show ((max s.peak m : Nat) : Int) = max (s.peak : Int) (m : Int) by omega] at h2
      unfold meterP
      rw [← HM.out]
      exact h2
end Go.Proofs.YtimbbfneaaglbaaGreat.Heads
