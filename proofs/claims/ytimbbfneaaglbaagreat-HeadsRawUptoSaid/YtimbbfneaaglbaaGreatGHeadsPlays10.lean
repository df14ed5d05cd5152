/-
  The walks of slices.Index of bools, and of the reference's New and Clone (stage 13). By an AI agent.
-/
import Derived.Test.YtimbbfneaaglbaaGreatGHeadsPlays8
import Derived.Test.YtimbbfneaaglbaaGreatGHeadsPlays9
import Derived.Lib.AppendZeros
namespace Go.Proofs.YtimbbfneaaglbaaGreat.Heads
open Go.RowKit Go.Proofs.YtimbbfneaaglbaaGreat.Ints Go.Proofs.YtimbbfneaaglbaaGreat.Mem Go.Proofs.YtimbbfneaaglbaaGreat.Trace Go.Proofs.YtimbbfneaaglbaaGreat.Record Go.Proofs.YtimbbfneaaglbaaGreat.Log Go.Proofs.YtimbbfneaaglbaaGreat.Src

theorem bool_at {w : World} {base g cap n : Nat} {e : TypeId} {l : List Bool} (h : w.ownsRow base e 1 (.slice (some ⟨g, 0, none⟩) n cap) n (l.map Value.bool)) {j : Nat} {u : Bool} (hj : l[j]? = some u) : w.cell? ⟨g, j, none⟩ = some (.bool u) := by
  have hl : l.length = n := by simpa using h.1
  obtain ⟨h1, h2⟩ := List.getElem?_eq_some_iff.1 hj
  rw [h.cellAt j (by omega), List.getElem?_map, hj]
  rfl
def idxB (l : List Bool) : Int := if l.findIdx (!·) < l.length then (l.findIdx (!·) : Nat) else -1

set_option maxHeartbeats 4000000 in
set_option maxRecDepth 100000 in
theorem idxBool (w : World) (base n c : Nat) (A : Option Addr) (l : List Bool) (h : w.ownsRow base 4 1 (.slice A n c) n (l.map Value.bool)) :
    Calls Tryz.prog 76 #[.slice A n c, .bool false] w fun e w' => e = .returned (.int .i64 (idxB l)) ∧ w' = w := by
  have q63 : maxLen = 9223372036854775807 := rfl
  have hl : l.length = n := by simpa using h.1
  obtain ⟨A', c', e0, hc1, hc2, -, -⟩ := own_slice h
  injection e0 with ea _ eb
  subst ea; subst eb
  have HR := Lib.hid h
  have HL := Lib.hid hl
  clear h
  go_enter Tryz.func76, Tryz.ntmps76
  go_wp2
  go_loop [8] (fun i => ∃ k : Nat, k ≤ n ∧ i = .int .i64 (k : Nat) ∧ k ≤ l.findIdx (!·)) (fun i => n - (intOf i).toNat)
  case atStart => exact ⟨0, Nat.zero_le _, rfl, Nat.zero_le _⟩
  case round =>
    obtain ⟨k, hk, rfl, hfk⟩ := hrel
    by_cases hkn : k < n
    · have hkn' : (k : Int) < (n : Int) := by omega
      obtain ⟨g1, c1a, e1, -⟩ := own_form HR.out (by omega)
      injection e1 with e1 _ e3
      subst e1; subst e3
      obtain ⟨u, hu⟩ : ∃ u, l[k]? = some u := ⟨_, List.getElem?_eq_getElem (by omega)⟩
      have xr := bool_at HR.out hu
      cases u with
      | false =>
        have HE := Lib.hid (show idxB l = (k : Int) by
          have e : l.findIdx (!·) = k := by
            refine Nat.le_antisymm ?_ hfk
            refine Nat.le_of_not_lt fun hgt => ?_
            have := List.not_of_lt_findIdx (p := (!·)) (xs := l) hgt
            rw [List.getElem?_eq_getElem (by omega)] at hu
            injection hu with hu
            rw [hu] at this
            simp at this
          unfold idxB
          rw [e, if_pos (by omega)])
        clear hu hl
        go_wp2
        go_ret
        exact ⟨by rw [HE.out]; rfl, rfl⟩
      | true =>
        have HF := Lib.hid (show k + 1 ≤ l.findIdx (!·) by
          refine Nat.lt_of_le_of_ne hfk fun e => ?_
          have hlt : l.findIdx (!·) < l.length := by omega
          have := List.findIdx_getElem (p := (!·)) (xs := l) (w := hlt)
          rw [List.getElem?_eq_getElem (by omega)] at hu
          injection hu with hu
          simp only [← e, hu] at this
          cases this)
        clear hu hl
        go_wp2
        go_round
        case rel => exact ⟨k + 1, by omega, by go_num, HF.out⟩
        case measure => simp [intOf]; omega
    · obtain rfl : k = n := by omega
      have hkn' : ¬ ((k : Int) < (k : Int)) := by omega
      have HE := Lib.hid (show idxB l = -1 by unfold idxB; rw [if_neg (by omega)])
      clear hl
      go_wp2
      go_ret
      exact ⟨by rw [HE.out]; rfl, rfl⟩
theorem idx_free (hs : List (Option Nat)) : idxB (hs.map Option.isSome) = if freeP hs < hs.length then (freeP hs : Int) else -1 := by
  have e : (hs.map Option.isSome).findIdx (!·) = freeP hs := by
    unfold freeP
    rw [List.findIdx_map]
    congr 1
    funext o
    cases o <;> rfl
  unfold idxB
  rw [e, List.length_map]

theorem infoBool : (Tryz.prog.info? 4).map (fun i => (i.zero, i.size, i.bytes)) = some (some (.bool false), 1, 1) := by kernel_rfl
theorem infoInt : (Tryz.prog.info? 3).map (fun i => (i.zero, i.size, i.bytes)) = some (some (.int .i64 0), 1, 8) := by kernel_rfl

set_option maxHeartbeats 8000000 in
set_option maxRecDepth 100000 in
theorem refNew (w : World) (g : Nat) (D : Nat → Prop) (s : PS) (h : RP w g D s) (hok : OkP s) (hl : s.hs.length ≤ 100000) (hpk : s.peak ≤ 4611686018427387904) (k : Nat) (hk : k ≤ s.t.events.length) :
    Calls Tryz.prog 45 #[.pointer (some ⟨g, 0, none⟩), .int .i64 (k : Nat)] w fun e w' => e = .returned (.tuple #[.int .i64 ((addP s k).1 : Nat), .int .i64 ((addP s k).2.1 : Nat)]) ∧ Turn w w' g D (addP s k).2.2 := by
  have q63 : maxLen = 9223372036854775807 := rfl
  obtain ⟨i0, hi, hz0, hz1, hz2⟩ := info_parts infoBool
  obtain ⟨j0, hj, hy0, hy1, hy2⟩ := info_parts infoInt
  have hd := (Below.refl w.heap.size w).drew
  obtain ⟨V, hV⟩ : ∃ V, w.drew = V := ⟨_, rfl⟩
  have hp : RP V g D s := by rw [← hV]; exact h.below hd
  have HLV := Lib.hid (show Left D w V by rw [← hV]; exact Left.of_below hd)
  have HC := Lib.hid (refCount V g D s hp)
  obtain ⟨NA, nn, nc, EA, ne, ec, w1, w2, ats0, hb0, -⟩ := h.ex
  have s3 := hb0.cell 3 rfl
  have HP := Lib.hid hp
  clear hb0 hp hd h
  go_enter Tryz.func45, Tryz.ntmps45
  go_wp2_with fail
  refine wp_region_held_drew (S := fun W => W.cell? ⟨g, 3, none⟩ = some (.int .i64 s.size)) (by kernel_rfl) (by exact s3) (fun hHeld => ?_)
  rw [hV] at hHeld ⊢
  clear hV s3
  refine wpAnyH_take (i := 0) (oi := ?tko1) (v := ?tkv1) ?tkh1 (by kernel_rfl) (by kernel_rfl) (by kernel_rfl) ?tkq1 ?tky1 hHeld ?tkr1
  case tkh1 => (simp only [List.getElem?_toArray, List.getElem?_cons_zero]; rfl)
  case tkq1 => exact fun _ _ _ h => h
  case tky1 => exact Or.inl ⟨by rfl, by intro wSw hSw; (try dsimp only at hSw); go_simp; try with_reducible rfl⟩
  try simp only [Act.put, List.setIfInBounds_toArray, List.set_cons_zero, List.set_cons_succ]
  refine wpAnyH_take (i := 2) (oi := ?tko2) (v := ?tkv2) ?tkh2 (by kernel_rfl) (by kernel_rfl) (by kernel_rfl) ?tkq2 ?tky2 hHeld ?tkr2
  case tkh2 => (simp only [List.getElem?_toArray, List.getElem?_cons_succ, List.getElem?_cons_zero]; rfl)
  case tkq2 => exact fun _ _ _ h => h
  case tky2 => exact Or.inl ⟨by rfl, by intro wSw hSw; (try dsimp only at hSw); go_simp; try with_reducible rfl⟩
  try simp only [Act.put, List.setIfInBounds_toArray, List.set_cons_zero, List.set_cons_succ]
  refine wpAnyH_take (i := 3) (oi := ?tko3) (v := ?tkv3) ?tkh3 (by kernel_rfl) (by kernel_rfl) (by kernel_rfl) ?tkq3 ?tky3 hHeld ?tkr3
  case tkh3 => (simp only [List.getElem?_toArray, List.getElem?_cons_succ, List.getElem?_cons_zero]; rfl)
  case tkq3 => exact fun _ _ _ h => h
  case tky3 => exact Or.inl ⟨by rfl, by intro wSw hSw; (try dsimp only at hSw); go_simp; try with_reducible rfl⟩
  try simp only [Act.put, List.setIfInBounds_toArray, List.set_cons_zero, List.set_cons_succ]
  refine wpAnyH_take (i := 4) (oi := ?tko4) (v := ?tkv4) ?tkh4 (by kernel_rfl) (by kernel_rfl) (by kernel_rfl) ?tkq4 ?tky4 hHeld ?tkr4
  case tkh4 => (simp only [List.getElem?_toArray, List.getElem?_cons_succ, List.getElem?_cons_zero]; rfl)
  case tkq4 => exact fun _ _ _ h => h
  case tky4 => exact Or.inl ⟨by rfl, by intro wSw hSw; (try dsimp only at hSw); go_simp; try with_reducible rfl⟩
  try simp only [Act.put, List.setIfInBounds_toArray, List.set_cons_zero, List.set_cons_succ]
  refine wpAnyH_take (i := 5) (oi := ?tko5) (v := ?tkv5) ?tkh5 (by kernel_rfl) (by kernel_rfl) (by kernel_rfl) ?tkq5 ?tky5 hHeld ?tkr5
  case tkh5 => (simp only [List.getElem?_toArray, List.getElem?_cons_succ, List.getElem?_cons_zero]; rfl)
  case tkq5 => exact fun _ _ _ h => h
  case tky5 => exact Or.inl ⟨by rfl, by intro wSw hSw; (try dsimp only at hSw); go_simp; try with_reducible rfl⟩
  try simp only [Act.put, List.setIfInBounds_toArray, List.set_cons_zero, List.set_cons_succ]
  refine wpAnyH_ready (rs := [1]) (by kernel_rfl) (by simp) ?_
  refine AllReadyH.cons (o := ?tko6) ?tkh6 (fun Kt6 hKt6 => ?_) AllReadyH.nil
  case tkh6 => (simp only [List.getElem?_toArray, List.getElem?_cons_succ, List.getElem?_cons_zero]; rfl)
  go_simp
  (refine HC.out.mono ?_; rintro e w3 ⟨rfl, rfl⟩)
  refine hKt6.out _ _ ?_ (fun hHt6 => ?_)
  · (exact hHeld)
  clear hKt6 Kt6 hHeld
  have hHeld := hHt6
  clear hHt6
  try simp only [Act.put, List.setIfInBounds_toArray, List.set_cons_zero, List.set_cons_succ]
  refine wpAnyH_take (i := 6) (oi := ?tko7) (v := ?tkv7) ?tkh7 (by kernel_rfl) (by kernel_rfl) (by kernel_rfl) ?tkq7 ?tky7 hHeld ?tkr7
  case tkh7 => (simp only [List.getElem?_toArray, List.getElem?_cons_succ, List.getElem?_cons_zero]; rfl)
  case tkq7 => exact fun _ _ _ h => h
  case tky7 => exact Or.inl ⟨by rfl, by intro wSw hSw; (try dsimp only at hSw); go_simp; try with_reducible rfl⟩
  try simp only [Act.put, List.setIfInBounds_toArray, List.set_cons_zero, List.set_cons_succ]
  refine wpAnyH_done (by kernel_rfl) ?_ _
  clear hHeld
  by_cases hfull : (countP s.hs : Int) = s.size
  · have hfull' : ((countP s.hs : Int) == s.size) = true := by simp [hfull]
    have HA := Lib.hid (show addP s k = (0, 12, s) by unfold addP; rw [if_pos hfull])
    clear hfull
    go_wp2
    refine bodyPost_ret (v := .tuple #[.int .i64 0, .int .i64 12]) (by simp [results, Tryz.results45, go_sem]) rfl ?_
    rw [HA.out]
    exact ⟨rfl, (Turn.refl HP.out).ahead HLV.out⟩
  have hfull' : ((countP s.hs : Int) == s.size) = false := by simpa using hfull
  have HA := Lib.hid (show addP s k = (freeP s.hs, 0, meterP { s with hs := putP s.hs (freeP s.hs) k }) by unfold addP; rw [if_neg hfull])
  obtain ⟨v1, v2, ats, hq, hatl, hatv⟩ := HP.out.split
  have hidx := idx_free s.hs
  have hfl := free_le s.hs
  have hfat : freeP s.hs < s.hs.length → s.hs[freeP s.hs]? = some none := fun h => free_at h
  have hatp := hok.atp.put hk
  obtain ⟨fr, hfr⟩ : ∃ fr, freeP s.hs = fr := ⟨_, rfl⟩
  rw [hfr] at hidx hfl hfat hatp HA
  have h1 := hq.r1
  have h2 := hq.r2
  have hbx := hq.ex
  obtain ⟨A, c, rfl, hc1, hc2, -, -⟩ := own_slice h1
  obtain ⟨B, d, rfl, hd1, hd2, -, -⟩ := own_slice h2
  obtain ⟨NA', nn', nc', EA', ne', ec', hb1, -⟩ := hbx
  have x4 := hb1.cell 4 rfl
  have x5 := hb1.cell 5 rfl
  have f4 := hb1.fz 4 rfl
  have f5 := hb1.fz 5 rfl
  have HI := Lib.hid (idxBool w3 (g + 1) _ c A (s.hs.map Option.isSome) h1)
  rw [hidx, List.length_map] at HI
  rw [List.length_map] at x4 hc1
  obtain ⟨n, hn⟩ : ∃ n, s.hs.length = n := ⟨_, rfl⟩
  have hl1 : (s.hs.map Option.isSome).length = n := by rw [List.length_map]; exact hn
  rw [hn] at HI hl hatl hfl hfat hc1 x4
  rw [hatl] at hd1 x5
  have HATP := Lib.hid hatp
  have HQ := Lib.hid hq
  have HN := Lib.hid hn
  have HFR := Lib.hid hfr
  have HATV := Lib.hid hatv
  have HL1 := Lib.hid hl1
  have HATL := Lib.hid hatl
  clear hatp hq h1 h2 hb1 hidx hfull hfr hatv hn hl1
  by_cases hfn : fr < n
  · have hfat := hfat hfn
    rw [if_pos hfn] at HI
    have hfr0 : ¬ ((fr : Int) < 0) := by omega
    have hfn' : (fr : Int) < (n : Int) := by omega
    obtain ⟨g1, c1a, e1, -⟩ := own_form HQ.out.r1 (by rw [HL1.out]; omega)
    injection e1 with e1 _ e3
    subst e1; subst e3
    obtain ⟨g2, c2a, e2, -⟩ := own_form HQ.out.r2 (by rw [HATL.out]; omega)
    injection e2 with e2 _ e4
    subst e2; subst e4
    go_wp2_with fail
    refine HI.out.mono ?_
    rintro e U ⟨rfl, rfl⟩
    go_wp2_with fail
    have HQU := Lib.hid (show RQ U g D s (.slice (some ⟨g1, 0, none⟩) n c) (s.hs.map Option.isSome) (.slice (some ⟨g2, 0, none⟩) n d) ats by have h := HQ.out; rw [HL1.out, HATL.out] at h; exact h)
    have HF1 := Lib.hid (show (s.hs.map Option.isSome)[fr]? = some false by rw [List.getElem?_map, hfat]; rfl)
    have HL2 := Lib.hid (show fr < ats.length by rw [HATL.out]; exact hfn)
    clear x4 x5 f4 f5
    obtain ⟨U2, hU2⟩ : ∃ U2, U.drew = U2 := ⟨_, rfl⟩
    have hqd : RQ U2 g D s (.slice (some ⟨g1, 0, none⟩) n c) (s.hs.map Option.isSome) (.slice (some ⟨g2, 0, none⟩) n d) ats := by rw [← hU2]; exact HQU.out.below ((Below.refl _ U).drew)
    have HLU := Lib.hid (show Left D U U2 by rw [← hU2]; exact Left.of_below ((Below.refl _ U).drew))
    have hT1 := hqd.set1 fr true
    obtain ⟨D3, hq3, hd3, hl3⟩ := hT1
    have hT2 := hq3.set2 fr (k : Int)
    obtain ⟨D4, hq4, hd4, hl4⟩ := hT2
    have hr1 := hqd.r1
    rw [HL1.out] at hr1
    have y1 := bool_at hr1 (j := fr) (u := false) HF1.out
    have z1 := hr1.frozenAt fr
    have hz2 : ats[fr]? = some (ats[fr]'HL2.out) := List.getElem?_eq_getElem _
    have hr2 := hq3.r2
    rw [HATL.out] at hr2
    have y2 := int_cell hr2 (j := fr) hz2
    have z2 := hr2.frozenAt fr
    have hS0 : U2.cell? ⟨g, 4, none⟩ = some (.slice (some ⟨g1, 0, none⟩) n c) ∧ U2.cell? ⟨g, 5, none⟩ = some (.slice (some ⟨g2, 0, none⟩) n d) := by
      obtain ⟨_, _, _, _, _, _, hb, -⟩ := hqd.ex
      exact ⟨hb.cell 4 rfl, hb.cell 5 rfl⟩
    have hS3 : (U2.setCell ⟨g1, fr, none⟩ (.bool true)).cell? ⟨g, 4, none⟩ = some (.slice (some ⟨g1, 0, none⟩) n c) ∧ (U2.setCell ⟨g1, fr, none⟩ (.bool true)).cell? ⟨g, 5, none⟩ = some (.slice (some ⟨g2, 0, none⟩) n d) := by
      obtain ⟨_, _, _, _, _, _, hb, -⟩ := hq3.ex
      exact ⟨hb.cell 4 rfl, hb.cell 5 rfl⟩
    have hS4 : ((U2.setCell ⟨g1, fr, none⟩ (.bool true)).setCell ⟨g2, fr, none⟩ (.int .i64 (k : Int))).cell? ⟨g, 4, none⟩ = some (.slice (some ⟨g1, 0, none⟩) n c) ∧ ((U2.setCell ⟨g1, fr, none⟩ (.bool true)).setCell ⟨g2, fr, none⟩ (.int .i64 (k : Int))).cell? ⟨g, 5, none⟩ = some (.slice (some ⟨g2, 0, none⟩) n d) := by
      obtain ⟨_, _, _, _, _, _, hb, -⟩ := hq4.ex
      exact ⟨hb.cell 4 rfl, hb.cell 5 rfl⟩
    have HJ := Lib.hid (show Turn2 U2 ((U2.setCell ⟨g1, fr, none⟩ (.bool true)).setCell ⟨g2, fr, none⟩ (.int .i64 (k : Int))) g D s (.slice (some ⟨g1, 0, none⟩) n c) ((s.hs.map Option.isSome).set fr true) (.slice (some ⟨g2, 0, none⟩) n d) (ats.set fr (k : Int)) from (Turn2.trans ⟨D3, hq3, hd3, hl3⟩ fun D' h' => h'.set2 fr (k : Int)))
    have hfn2 : (fr : Int) < (n : Int) := by omega
    clear hr1 hr2 hqd hq3 hd3 hl3 hq4 hd4 hl4 hz2
    refine wp_region_held_drew (S := fun W => W.cell? ⟨g, 4, none⟩ = some (.slice (some ⟨g1, 0, none⟩) n c) ∧ W.cell? ⟨g, 5, none⟩ = some (.slice (some ⟨g2, 0, none⟩) n d)) (by kernel_rfl) (by rw [hU2]; exact hS0) (fun hHeld => ?_)
    rw [hU2] at hHeld ⊢
    clear hU2 hS0
    refine wpAnyH_take (i := 0) (oi := ?tko8) (v := ?tkv8) ?tkh8 (by kernel_rfl) (by kernel_rfl) (by kernel_rfl) ?tkq8 ?tky8 hHeld ?tkr8
    case tkh8 => (simp only [List.getElem?_toArray, List.getElem?_cons_zero]; rfl)
    case tkq8 => exact fun _ _ _ h => h
    case tky8 => exact Or.inl ⟨by rfl, by intro wSw hSw; (try dsimp only at hSw); go_simp; try with_reducible rfl⟩
    try simp only [Act.put, List.setIfInBounds_toArray, List.set_cons_zero, List.set_cons_succ]
    refine wpAnyH_take (i := 1) (oi := ?tko9) (v := ?tkv9) ?tkh9 (by kernel_rfl) (by kernel_rfl) (by kernel_rfl) ?tkq9 ?tky9 hHeld ?tkr9
    case tkh9 => (simp only [List.getElem?_toArray, List.getElem?_cons_succ, List.getElem?_cons_zero]; rfl)
    case tkq9 => exact fun _ _ _ h => h
    case tky9 => exact Or.inl ⟨by rfl, by intro wSw hSw; (try dsimp only at hSw); go_simp; try with_reducible rfl⟩
    try simp only [Act.put, List.setIfInBounds_toArray, List.set_cons_zero, List.set_cons_succ]
    refine wpAnyH_take (i := 2) (oi := ?tko10) (v := ?tkv10) ?tkh10 (by kernel_rfl) (by kernel_rfl) (by kernel_rfl) ?tkq10 ?tky10 hHeld ?tkr10
    case tkh10 => (simp only [List.getElem?_toArray, List.getElem?_cons_succ, List.getElem?_cons_zero]; rfl)
    case tkq10 => exact fun _ _ _ h => h
    case tky10 => exact Or.inl ⟨by rfl, by intro wSw hSw; (try dsimp only at hSw); go_simp; try with_reducible rfl⟩
    try simp only [Act.put, List.setIfInBounds_toArray, List.set_cons_zero, List.set_cons_succ]
    refine wpAnyH_take (i := 3) (oi := ?tko11) (v := ?tkv11) ?tkh11 (by kernel_rfl) (by kernel_rfl) (by kernel_rfl) ?tkq11 ?tky11 hHeld ?tkr11
    case tkh11 => (simp only [List.getElem?_toArray, List.getElem?_cons_succ, List.getElem?_cons_zero]; rfl)
    case tkq11 => exact fun _ _ _ h => h
    case tky11 => exact Or.inl ⟨by rfl, by intro wSw hSw; (try dsimp only at hSw); go_simp; try with_reducible rfl⟩
    try simp only [Act.put, List.setIfInBounds_toArray, List.set_cons_zero, List.set_cons_succ]
    refine wpAnyH_take (i := 4) (oi := ?tko12) (v := ?tkv12) ?tkh12 (by kernel_rfl) (by kernel_rfl) (by kernel_rfl) ?tkq12 ?tky12 hHeld ?tkr12
    case tkh12 => (simp only [List.getElem?_toArray, List.getElem?_cons_succ, List.getElem?_cons_zero]; rfl)
    case tkq12 => exact fun _ _ _ h => h
    case tky12 => exact Or.inl ⟨by rfl, by intro wSw hSw; (try dsimp only at hSw); go_simp; try with_reducible rfl⟩
    try simp only [Act.put, List.setIfInBounds_toArray, List.set_cons_zero, List.set_cons_succ]
    refine wpAnyH_take (i := 5) (oi := ?tko13) (v := ?tkv13) ?tkh13 (by kernel_rfl) (by kernel_rfl) (by kernel_rfl) ?tkq13 ?tky13 hHeld ?tkr13
    case tkh13 => (simp only [List.getElem?_toArray, List.getElem?_cons_succ, List.getElem?_cons_zero]; rfl)
    case tkq13 => exact fun _ _ _ h => h
    case tky13 => exact Or.inl ⟨by rfl, by intro wSw hSw; (try dsimp only at hSw); go_simp; try with_reducible rfl⟩
    try simp only [Act.put, List.setIfInBounds_toArray, List.set_cons_zero, List.set_cons_succ]
    refine wpAnyH_take (i := 6) (oi := ?tko14) (v := ?tkv14) ?tkh14 (by kernel_rfl) (by kernel_rfl) (by kernel_rfl) ?tkq14 ?tky14 hHeld ?tkr14
    case tkh14 => (simp only [List.getElem?_toArray, List.getElem?_cons_succ, List.getElem?_cons_zero]; rfl)
    case tkq14 => exact fun _ _ _ h => h
    case tky14 => exact Or.inl ⟨by rfl, by intro wSw hSw; (try dsimp only at hSw); go_simp; try with_reducible rfl⟩
    try simp only [Act.put, List.setIfInBounds_toArray, List.set_cons_zero, List.set_cons_succ]
    refine wpAnyH_take (i := 7) (oi := ?tko15) (v := ?tkv15) ?tkh15 (by kernel_rfl) (by kernel_rfl) (by kernel_rfl) ?tkq15 ?tky15 hHeld ?tkr15
    case tkh15 => (simp only [List.getElem?_toArray, List.getElem?_cons_succ, List.getElem?_cons_zero]; rfl)
    case tkq15 => exact fun _ _ _ h => h
    case tky15 => exact Or.inl ⟨by rfl, by intro wSw hSw; (try dsimp only at hSw); go_simp; try with_reducible rfl⟩
    try simp only [Act.put, List.setIfInBounds_toArray, List.set_cons_zero, List.set_cons_succ]
    refine wpAnyH_take (i := 8) (oi := ?tko16) (v := ?tkv16) ?tkh16 (by kernel_rfl) (by kernel_rfl) (by kernel_rfl) ?tkq16 ?tky16 hHeld ?tkr16
    case tkh16 => (simp only [List.getElem?_toArray, List.getElem?_cons_succ, List.getElem?_cons_zero]; rfl)
    case tkq16 => exact fun _ _ _ h => h
    case tky16 => exact Or.inl ⟨by rfl, by intro wSw hSw; (try dsimp only at hSw); go_simp; try with_reducible rfl⟩
    try simp only [Act.put, List.setIfInBounds_toArray, List.set_cons_zero, List.set_cons_succ]
    refine wpAnyH_take (i := 9) (oi := ?tko17) (v := ?tkv17) ?tkh17 (by kernel_rfl) (by kernel_rfl) (by kernel_rfl) ?tkq17 ?tky17 hHeld ?tkr17
    case tkh17 => (simp only [List.getElem?_toArray, List.getElem?_cons_succ, List.getElem?_cons_zero]; rfl)
    case tkq17 => exact fun _ _ _ h => h
    case tky17 => exact Or.inl ⟨by rfl, by intro wSw hSw; (try dsimp only at hSw); go_simp; try with_reducible rfl⟩
    try simp only [Act.put, List.setIfInBounds_toArray, List.set_cons_zero, List.set_cons_succ]
    refine wpAnyH_take (i := 10) (oi := ?tko18) (v := ?tkv18) ?tkh18 (by kernel_rfl) (by kernel_rfl) (by kernel_rfl) ?tkq18 ?tky18 hHeld ?tkr18
    case tkh18 => (simp only [List.getElem?_toArray, List.getElem?_cons_succ, List.getElem?_cons_zero]; rfl)
    case tkq18 => exact fun _ _ _ h => h
    case tky18 => exact Or.inl ⟨by rfl, by intro wSw hSw; (try dsimp only at hSw); go_simp; try with_reducible rfl⟩
    try simp only [Act.put, List.setIfInBounds_toArray, List.set_cons_zero, List.set_cons_succ]
    refine wpAnyH_take (i := 11) (oi := ?tko19) (v := ?tkv19) ?tkh19 (by kernel_rfl) (by kernel_rfl) (by kernel_rfl) ?tkq19 ?tky19 hHeld ?tkr19
    case tkh19 => (simp only [List.getElem?_toArray, List.getElem?_cons_succ, List.getElem?_cons_zero]; rfl)
    case tkq19 => exact fun _ _ _ h => h
    case tky19 => exact Or.inl ⟨by rfl, by intro wSw hSw; (try dsimp only at hSw); go_simp; try with_reducible rfl⟩
    try simp only [Act.put, List.setIfInBounds_toArray, List.set_cons_zero, List.set_cons_succ]
    refine wpAnyH_ready (rs := [12]) (by kernel_rfl) (by simp) ?_
    refine AllReadyH.cons (o := ?tko20) ?tkh20 (fun Kt20 hKt20 => ?_) AllReadyH.nil
    case tkh20 => (simp only [List.getElem?_toArray, List.getElem?_cons_succ, List.getElem?_cons_zero]; rfl)
    go_simp
    (skip)
    refine hKt20.out _ _ ?_ (fun hHt20 => ?_)
    · (exact hS3)
    clear hKt20 Kt20 hHeld
    have hHeld := hHt20
    clear hHt20
    try simp only [Act.put, List.setIfInBounds_toArray, List.set_cons_zero, List.set_cons_succ]
    refine wpAnyH_take (i := 13) (oi := ?tko21) (v := ?tkv21) ?tkh21 (by kernel_rfl) (by kernel_rfl) (by kernel_rfl) ?tkq21 ?tky21 hHeld ?tkr21
    case tkh21 => (simp only [List.getElem?_toArray, List.getElem?_cons_succ, List.getElem?_cons_zero]; rfl)
    case tkq21 => exact fun _ _ _ h => h
    case tky21 => exact Or.inl ⟨by rfl, by intro wSw hSw; (try dsimp only at hSw); go_simp; try with_reducible rfl⟩
    try simp only [Act.put, List.setIfInBounds_toArray, List.set_cons_zero, List.set_cons_succ]
    refine wpAnyH_ready (rs := [14]) (by kernel_rfl) (by simp) ?_
    refine AllReadyH.cons (o := ?tko22) ?tkh22 (fun Kt22 hKt22 => ?_) AllReadyH.nil
    case tkh22 => (simp only [List.getElem?_toArray, List.getElem?_cons_succ, List.getElem?_cons_zero]; rfl)
    go_simp
    (skip)
    refine hKt22.out _ _ ?_ (fun hHt22 => ?_)
    · (exact hS4)
    clear hKt22 Kt22 hHeld
    have hHeld := hHt22
    clear hHt22
    try simp only [Act.put, List.setIfInBounds_toArray, List.set_cons_zero, List.set_cons_succ]
    refine wpAnyH_done (by kernel_rfl) ?_ _
    clear hHeld hS3 hS4 y1 y2 z1 z2
    have hput : putP s.hs fr k = s.hs.set fr (some k) := by unfold putP; rw [if_pos (by rw [HN.out]; exact hfn)]
    have hjn := HJ.out.join (hs := putP s.hs fr k) (by rw [hput, List.map_set]; rfl) (by rw [hput, List.length_set, List.length_set, HATL.out, HN.out]) (fun i m him => by
      rw [hput, List.getElem?_set] at him
      rw [List.getElem?_set]
      split at him
      · rename_i e
        subst e
        rw [if_pos (by rw [HN.out]; exact hfn)] at him
        injection him with him
        injection him with him
        subst him
        rw [if_pos rfl, if_pos (by rw [HATL.out]; exact hfn)]
      · rename_i e
        rw [if_neg e]
        exact HATV.out i m him)
    obtain ⟨D5, hr5, hd5, hl5⟩ := (hjn.ahead HLU.out).ahead HLV.out
    have FC := refCells _ g D5 _ hr5 HATP.out (by show (putP s.hs fr k).length ≤ _; rw [hput, List.length_set, HN.out]; omega) hpk
    have HFC := Lib.hid FC
    have HD5 := Lib.hid hd5
    have HL5 := Lib.hid hl5
    clear FC hjn hr5 hd5 hl5 hput
    go_wp2_with fail
    refine HFC.out.mono ?_
    rintro e w6 ⟨rfl, ht6⟩
    have HT6 := Lib.hid (ht6.step HD5.out HL5.out)
    clear ht6
    go_wp2_with fail
    refine bodyPost_ret (v := .tuple #[.int .i64 (fr : Nat), .int .i64 0]) (by simp [results, Tryz.results45, go_sem]) rfl ?_
    rw [HA.out]
    exact ⟨rfl, HT6.out⟩
  · have hfe : n = fr := by omega
    subst hfe
    rw [if_neg (Nat.lt_irrefl _)] at HI
    have hr1 := HQ.out.r1
    have hr2 := HQ.out.r2
    rw [HL1.out] at hr1
    rw [HATL.out] at hr2
    have hq0 : RQ w3 g D s (.slice A n c) (s.hs.map Option.isSome) (.slice B n d) ats := by have h := HQ.out; rw [HL1.out, HATL.out] at h; exact h
    obtain ⟨v1, w1, hrun1, hown1, hgr1, hpl1⟩ := append_one (P := Tryz.prog) (w := w3) (g + 1) 55 55 4 4 i0 (.bool false) (.bool false) 1 Tryz.underlying55 hi hz0 hz1 hz2 rfl (.slice A n c) n _ hr1 rfl (by omega) (by decide) (by have := hq0.lt g hq0.dg; omega)
    obtain ⟨g1, c1, rfl, -⟩ := own_form hown1 (by omega)
    have hm1 : (s.hs.map Option.isSome ++ [false]).length = n + 1 := by rw [List.length_append, HL1.out]; rfl
    obtain ⟨D1, hq1, hd1, hl1⟩ := (hq0.below ((Below.refl _ w3).alloc (Nat.le_refl _) (.cells #[.bool false] 4))).row1 (l1' := s.hs.map Option.isSome ++ [false]) hgr1 (by rw [hm1, List.map_append]; exact hown1) (B := w3.heap.size) (by simp) hpl1
    have hoff1 : ∀ o, o < 7 → (w3.alloc (.cells #[.bool false] 4)).grownBy w1 (Value.slice A n c).ownBlock → w1.heap[g]? = w3.heap[g]? := fun o _ hg => by
      have h1 := hg.block g (by have := hq0.lt g hq0.dg; simp; omega) (fun e => by have := (hr1.lt g e.symm).1; omega)
      rw [h1]
      exact heap_alloc_old w3 _ (hq0.lt g hq0.dg)
    have hg1 := hoff1 0 (by decide) hgr1
    have y4 := (World.cell?_of_block (a := ⟨g, 4, none⟩) hg1).trans x4
    have t4 := (World.frozen?_of_block (a := ⟨g, 4, none⟩) hg1).trans f4
    obtain ⟨X, hX⟩ : ∃ X, w1.setCell ⟨g, 4, none⟩ (.slice (some ⟨g1, 0, none⟩) (n + 1) c1) = X := ⟨_, rfl⟩
    rw [hX] at hq1 hl1
    have hr3 := hq1.r2
    rw [HATL.out] at hr3
    obtain ⟨v2, w2', hrun2, hown2, hgr2, hpl2⟩ := append_one (P := Tryz.prog) (w := X) (g + 1) 24 24 3 3 j0 (.int .i64 0) (.int .i64 0) 8 Tryz.underlying24 hj hy0 hy1 hy2 rfl (.slice B n d) n _ hr3 rfl (by omega) (by decide) (by have := hq1.lt g hq1.dg; omega)
    obtain ⟨g2, d1, rfl, -⟩ := own_form hown2 (by omega)
    have hm2 : (ats ++ [0]).length = n + 1 := by rw [List.length_append, HATL.out]; rfl
    obtain ⟨DY, hqY, hdY, hlY⟩ := (hq1.below ((Below.refl _ X).alloc (Nat.le_refl _) (.cells #[.int .i64 0] 3))).row2 (l2' := ats ++ [0]) hgr2 (by rw [hm2, List.map_append]; exact hown2) (B := X.heap.size) (by simp) hpl2
    have hg2 : w2'.heap[g]? = X.heap[g]? := by
      have h1 := hgr2.block g (by have := hq1.lt g hq1.dg; simp; omega) (fun e => by have := (hr3.lt g e.symm).1; omega)
      rw [h1]
      exact heap_alloc_old X _ (hq1.lt g hq1.dg)
    have hbX := hq1.ex
    obtain ⟨_, _, _, _, _, _, hbX, -⟩ := hbX
    have x5X := hbX.cell 5 rfl
    have f5X := hbX.fz 5 rfl
    have y5 := (World.cell?_of_block (a := ⟨g, 5, none⟩) hg2).trans x5X
    have t5 := (World.frozen?_of_block (a := ⟨g, 5, none⟩) hg2).trans f5X
    obtain ⟨Y, hY⟩ : ∃ Y, w2'.setCell ⟨g, 5, none⟩ (.slice (some ⟨g2, 0, none⟩) (n + 1) d1) = Y := ⟨_, rfl⟩
    rw [hY] at hqY hlY
    have HM1 := Lib.hid hm1
    have HM2 := Lib.hid hm2
    have HDY := Lib.hid (show ∀ q, DY q → D q ∨ w3.heap.size ≤ q from fun q hq => by
      rcases hdY q hq with e | e
      · exact hd1 q e
      · exact .inr (Nat.le_trans (by have := hl1.size; simp at this; omega) e))
    have HLUY := Lib.hid (show Left D w3 Y from by
      have h1 : Left D w3 (w3.alloc (.cells #[.bool false] 4)) := Left.of_below ((Below.refl _ w3).alloc (Nat.le_refl _) _)
      have h2 := h1.trans hl1 (fun q hq => .inl hq)
      have h3 : Left D1 X (X.alloc (.cells #[.int .i64 0] 3)) := Left.of_below ((Below.refl _ X).alloc (Nat.le_refl _) _)
      exact h2.trans (h3.trans hlY (fun q hq => .inl hq)) hd1)
    have HQY := Lib.hid (show RQ Y g DY s (.slice (some ⟨g1, 0, none⟩) (n + 1) c1) (s.hs.map Option.isSome ++ [false]) (.slice (some ⟨g2, 0, none⟩) (n + 1) d1) (ats ++ [0]) from hqY)
    have HF1 := Lib.hid (show (s.hs.map Option.isSome ++ [false])[n]? = some false by rw [List.getElem?_append_right (by rw [HL1.out]; exact Nat.le_refl _), HL1.out, Nat.sub_self]; rfl)
    have HL2 := Lib.hid (show n < (ats ++ [0]).length by rw [hm2]; exact Nat.lt_succ_self _)
    clear hr1 hr2 hq0 hown1 hgr1 hpl1 hm1 hq1 hd1 hl1 hoff1 hg1 hr3 hown2 hgr2 hpl2 hm2 hqY hdY hlY hg2 hbX x5 f5 HQ hfat
    go_wp2_with fail
    refine HI.out.mono ?_
    rintro e U ⟨rfl, rfl⟩
    go_wp2_with first
      | (at_builtin; refine Lib.wpList_append_run _ rfl _ _ _ _ rfl (.slice A n c) _ (by rfl) (by rfl) _ _ hrun1 ?_)
      | (at_builtin; refine Lib.wpList_append_run _ rfl _ _ _ _ rfl (.slice B n d) _ (by rfl) (by rfl) _ _ hrun2 ?_)
    obtain ⟨Y2, hY2⟩ : ∃ Y2, Y.drew = Y2 := ⟨_, rfl⟩
    have hqd : RQ Y2 g DY s (.slice (some ⟨g1, 0, none⟩) (n + 1) c1) (s.hs.map Option.isSome ++ [false]) (.slice (some ⟨g2, 0, none⟩) (n + 1) d1) (ats ++ [0]) := by rw [← hY2]; exact HQY.out.below ((Below.refl _ Y).drew)
    have HLY := Lib.hid (show Left DY Y Y2 by rw [← hY2]; exact Left.of_below ((Below.refl _ Y).drew))
    have hT1 := hqd.set1 n true
    obtain ⟨D3, hq3, hd3, hl3⟩ := hT1
    have hT2 := hq3.set2 n (k : Int)
    obtain ⟨D4, hq4, hd4, hl4⟩ := hT2
    have hr1 := hqd.r1
    rw [HM1.out] at hr1
    have y1 := bool_at hr1 (j := n) (u := false) HF1.out
    have z1 := hr1.frozenAt n
    have hz2 :(ats ++ [0])[n]? = some ((ats ++ [0])[n]'HL2.out) := List.getElem?_eq_getElem _
    have hr2 := hq3.r2
    rw [HM2.out] at hr2
    have y2 := int_cell hr2 (j := n) hz2
    have z2 := hr2.frozenAt n
    have hS0 : Y2.cell? ⟨g, 4, none⟩ = some (.slice (some ⟨g1, 0, none⟩) (n + 1) c1) ∧ Y2.cell? ⟨g, 5, none⟩ = some (.slice (some ⟨g2, 0, none⟩) (n + 1) d1) := by
      obtain ⟨_, _, _, _, _, _, hb, -⟩ := hqd.ex
      exact ⟨hb.cell 4 rfl, hb.cell 5 rfl⟩
    have hS3 : (Y2.setCell ⟨g1, n, none⟩ (.bool true)).cell? ⟨g, 4, none⟩ = some (.slice (some ⟨g1, 0, none⟩) (n + 1) c1) ∧ (Y2.setCell ⟨g1, n, none⟩ (.bool true)).cell? ⟨g, 5, none⟩ = some (.slice (some ⟨g2, 0, none⟩) (n + 1) d1) := by
      obtain ⟨_, _, _, _, _, _, hb, -⟩ := hq3.ex
      exact ⟨hb.cell 4 rfl, hb.cell 5 rfl⟩
    have hS4 : ((Y2.setCell ⟨g1, n, none⟩ (.bool true)).setCell ⟨g2, n, none⟩ (.int .i64 (k : Int))).cell? ⟨g, 4, none⟩ = some (.slice (some ⟨g1, 0, none⟩) (n + 1) c1) ∧ ((Y2.setCell ⟨g1, n, none⟩ (.bool true)).setCell ⟨g2, n, none⟩ (.int .i64 (k : Int))).cell? ⟨g, 5, none⟩ = some (.slice (some ⟨g2, 0, none⟩) (n + 1) d1) := by
      obtain ⟨_, _, _, _, _, _, hb, -⟩ := hq4.ex
      exact ⟨hb.cell 4 rfl, hb.cell 5 rfl⟩
    have HJ := Lib.hid (show Turn2 Y2 ((Y2.setCell ⟨g1, n, none⟩ (.bool true)).setCell ⟨g2, n, none⟩ (.int .i64 (k : Int))) g DY s (.slice (some ⟨g1, 0, none⟩) (n + 1) c1) ((s.hs.map Option.isSome ++ [false]).set n true) (.slice (some ⟨g2, 0, none⟩) (n + 1) d1) ((ats ++ [0]).set n (k : Int)) from (Turn2.trans ⟨D3, hq3, hd3, hl3⟩ fun D' h' => h'.set2 n (k : Int)))
    have hfn2 : (n : Int) < (n : Int) + 1 := by omega
    clear hr1 hr2 hqd hq3 hd3 hl3 hq4 hd4 hl4 hz2
    refine wp_region_held_drew (S := fun W => W.cell? ⟨g, 4, none⟩ = some (.slice (some ⟨g1, 0, none⟩) (n + 1) c1) ∧ W.cell? ⟨g, 5, none⟩ = some (.slice (some ⟨g2, 0, none⟩) (n + 1) d1)) (by kernel_rfl) (by rw [hY2]; exact hS0) (fun hHeld => ?_)
    rw [hY2] at hHeld ⊢
    clear hY2 hS0
    refine wpAnyH_take (i := 0) (oi := ?tko23) (v := ?tkv23) ?tkh23 (by kernel_rfl) (by kernel_rfl) (by kernel_rfl) ?tkq23 ?tky23 hHeld ?tkr23
    case tkh23 => (simp only [List.getElem?_toArray, List.getElem?_cons_zero]; rfl)
    case tkq23 => exact fun _ _ _ h => h
    case tky23 => exact Or.inl ⟨by rfl, by intro wSw hSw; (try dsimp only at hSw); go_simp; try with_reducible rfl⟩
    try simp only [Act.put, List.setIfInBounds_toArray, List.set_cons_zero, List.set_cons_succ]
    refine wpAnyH_take (i := 1) (oi := ?tko24) (v := ?tkv24) ?tkh24 (by kernel_rfl) (by kernel_rfl) (by kernel_rfl) ?tkq24 ?tky24 hHeld ?tkr24
    case tkh24 => (simp only [List.getElem?_toArray, List.getElem?_cons_succ, List.getElem?_cons_zero]; rfl)
    case tkq24 => exact fun _ _ _ h => h
    case tky24 => exact Or.inl ⟨by rfl, by intro wSw hSw; (try dsimp only at hSw); go_simp; try with_reducible rfl⟩
    try simp only [Act.put, List.setIfInBounds_toArray, List.set_cons_zero, List.set_cons_succ]
    refine wpAnyH_take (i := 2) (oi := ?tko25) (v := ?tkv25) ?tkh25 (by kernel_rfl) (by kernel_rfl) (by kernel_rfl) ?tkq25 ?tky25 hHeld ?tkr25
    case tkh25 => (simp only [List.getElem?_toArray, List.getElem?_cons_succ, List.getElem?_cons_zero]; rfl)
    case tkq25 => exact fun _ _ _ h => h
    case tky25 => exact Or.inl ⟨by rfl, by intro wSw hSw; (try dsimp only at hSw); go_simp; try with_reducible rfl⟩
    try simp only [Act.put, List.setIfInBounds_toArray, List.set_cons_zero, List.set_cons_succ]
    refine wpAnyH_take (i := 3) (oi := ?tko26) (v := ?tkv26) ?tkh26 (by kernel_rfl) (by kernel_rfl) (by kernel_rfl) ?tkq26 ?tky26 hHeld ?tkr26
    case tkh26 => (simp only [List.getElem?_toArray, List.getElem?_cons_succ, List.getElem?_cons_zero]; rfl)
    case tkq26 => exact fun _ _ _ h => h
    case tky26 => exact Or.inl ⟨by rfl, by intro wSw hSw; (try dsimp only at hSw); go_simp; try with_reducible rfl⟩
    try simp only [Act.put, List.setIfInBounds_toArray, List.set_cons_zero, List.set_cons_succ]
    refine wpAnyH_take (i := 4) (oi := ?tko27) (v := ?tkv27) ?tkh27 (by kernel_rfl) (by kernel_rfl) (by kernel_rfl) ?tkq27 ?tky27 hHeld ?tkr27
    case tkh27 => (simp only [List.getElem?_toArray, List.getElem?_cons_succ, List.getElem?_cons_zero]; rfl)
    case tkq27 => exact fun _ _ _ h => h
    case tky27 => exact Or.inl ⟨by rfl, by intro wSw hSw; (try dsimp only at hSw); go_simp; try with_reducible rfl⟩
    try simp only [Act.put, List.setIfInBounds_toArray, List.set_cons_zero, List.set_cons_succ]
    refine wpAnyH_take (i := 5) (oi := ?tko28) (v := ?tkv28) ?tkh28 (by kernel_rfl) (by kernel_rfl) (by kernel_rfl) ?tkq28 ?tky28 hHeld ?tkr28
    case tkh28 => (simp only [List.getElem?_toArray, List.getElem?_cons_succ, List.getElem?_cons_zero]; rfl)
    case tkq28 => exact fun _ _ _ h => h
    case tky28 => exact Or.inl ⟨by rfl, by intro wSw hSw; (try dsimp only at hSw); go_simp; try with_reducible rfl⟩
    try simp only [Act.put, List.setIfInBounds_toArray, List.set_cons_zero, List.set_cons_succ]
    refine wpAnyH_take (i := 6) (oi := ?tko29) (v := ?tkv29) ?tkh29 (by kernel_rfl) (by kernel_rfl) (by kernel_rfl) ?tkq29 ?tky29 hHeld ?tkr29
    case tkh29 => (simp only [List.getElem?_toArray, List.getElem?_cons_succ, List.getElem?_cons_zero]; rfl)
    case tkq29 => exact fun _ _ _ h => h
    case tky29 => exact Or.inl ⟨by rfl, by intro wSw hSw; (try dsimp only at hSw); go_simp; try with_reducible rfl⟩
    try simp only [Act.put, List.setIfInBounds_toArray, List.set_cons_zero, List.set_cons_succ]
    refine wpAnyH_take (i := 7) (oi := ?tko30) (v := ?tkv30) ?tkh30 (by kernel_rfl) (by kernel_rfl) (by kernel_rfl) ?tkq30 ?tky30 hHeld ?tkr30
    case tkh30 => (simp only [List.getElem?_toArray, List.getElem?_cons_succ, List.getElem?_cons_zero]; rfl)
    case tkq30 => exact fun _ _ _ h => h
    case tky30 => exact Or.inl ⟨by rfl, by intro wSw hSw; (try dsimp only at hSw); go_simp; try with_reducible rfl⟩
    try simp only [Act.put, List.setIfInBounds_toArray, List.set_cons_zero, List.set_cons_succ]
    refine wpAnyH_take (i := 8) (oi := ?tko31) (v := ?tkv31) ?tkh31 (by kernel_rfl) (by kernel_rfl) (by kernel_rfl) ?tkq31 ?tky31 hHeld ?tkr31
    case tkh31 => (simp only [List.getElem?_toArray, List.getElem?_cons_succ, List.getElem?_cons_zero]; rfl)
    case tkq31 => exact fun _ _ _ h => h
    case tky31 => exact Or.inl ⟨by rfl, by intro wSw hSw; (try dsimp only at hSw); go_simp; try with_reducible rfl⟩
    try simp only [Act.put, List.setIfInBounds_toArray, List.set_cons_zero, List.set_cons_succ]
    refine wpAnyH_take (i := 9) (oi := ?tko32) (v := ?tkv32) ?tkh32 (by kernel_rfl) (by kernel_rfl) (by kernel_rfl) ?tkq32 ?tky32 hHeld ?tkr32
    case tkh32 => (simp only [List.getElem?_toArray, List.getElem?_cons_succ, List.getElem?_cons_zero]; rfl)
    case tkq32 => exact fun _ _ _ h => h
    case tky32 => exact Or.inl ⟨by rfl, by intro wSw hSw; (try dsimp only at hSw); go_simp; try with_reducible rfl⟩
    try simp only [Act.put, List.setIfInBounds_toArray, List.set_cons_zero, List.set_cons_succ]
    refine wpAnyH_take (i := 10) (oi := ?tko33) (v := ?tkv33) ?tkh33 (by kernel_rfl) (by kernel_rfl) (by kernel_rfl) ?tkq33 ?tky33 hHeld ?tkr33
    case tkh33 => (simp only [List.getElem?_toArray, List.getElem?_cons_succ, List.getElem?_cons_zero]; rfl)
    case tkq33 => exact fun _ _ _ h => h
    case tky33 => exact Or.inl ⟨by rfl, by intro wSw hSw; (try dsimp only at hSw); go_simp; try with_reducible rfl⟩
    try simp only [Act.put, List.setIfInBounds_toArray, List.set_cons_zero, List.set_cons_succ]
    refine wpAnyH_take (i := 11) (oi := ?tko34) (v := ?tkv34) ?tkh34 (by kernel_rfl) (by kernel_rfl) (by kernel_rfl) ?tkq34 ?tky34 hHeld ?tkr34
    case tkh34 => (simp only [List.getElem?_toArray, List.getElem?_cons_succ, List.getElem?_cons_zero]; rfl)
    case tkq34 => exact fun _ _ _ h => h
    case tky34 => exact Or.inl ⟨by rfl, by intro wSw hSw; (try dsimp only at hSw); go_simp; try with_reducible rfl⟩
    try simp only [Act.put, List.setIfInBounds_toArray, List.set_cons_zero, List.set_cons_succ]
    refine wpAnyH_ready (rs := [12]) (by kernel_rfl) (by simp) ?_
    refine AllReadyH.cons (o := ?tko35) ?tkh35 (fun Kt35 hKt35 => ?_) AllReadyH.nil
    case tkh35 => (simp only [List.getElem?_toArray, List.getElem?_cons_succ, List.getElem?_cons_zero]; rfl)
    go_simp
    (skip)
    refine hKt35.out _ _ ?_ (fun hHt35 => ?_)
    · (exact hS3)
    clear hKt35 Kt35 hHeld
    have hHeld := hHt35
    clear hHt35
    try simp only [Act.put, List.setIfInBounds_toArray, List.set_cons_zero, List.set_cons_succ]
    refine wpAnyH_take (i := 13) (oi := ?tko36) (v := ?tkv36) ?tkh36 (by kernel_rfl) (by kernel_rfl) (by kernel_rfl) ?tkq36 ?tky36 hHeld ?tkr36
    case tkh36 => (simp only [List.getElem?_toArray, List.getElem?_cons_succ, List.getElem?_cons_zero]; rfl)
    case tkq36 => exact fun _ _ _ h => h
    case tky36 => exact Or.inl ⟨by rfl, by intro wSw hSw; (try dsimp only at hSw); go_simp; try with_reducible rfl⟩
    try simp only [Act.put, List.setIfInBounds_toArray, List.set_cons_zero, List.set_cons_succ]
    refine wpAnyH_ready (rs := [14]) (by kernel_rfl) (by simp) ?_
    refine AllReadyH.cons (o := ?tko37) ?tkh37 (fun Kt37 hKt37 => ?_) AllReadyH.nil
    case tkh37 => (simp only [List.getElem?_toArray, List.getElem?_cons_succ, List.getElem?_cons_zero]; rfl)
    go_simp
    (skip)
    refine hKt37.out _ _ ?_ (fun hHt37 => ?_)
    · (exact hS4)
    clear hKt37 Kt37 hHeld
    have hHeld := hHt37
    clear hHt37
    try simp only [Act.put, List.setIfInBounds_toArray, List.set_cons_zero, List.set_cons_succ]
    refine wpAnyH_done (by kernel_rfl) ?_ _
    clear hHeld hS3 hS4 y1 y2 z1 z2
    have hput : putP s.hs n k = s.hs ++ [some k] := by unfold putP; rw [if_neg (by rw [HN.out]; exact Nat.lt_irrefl _)]
    have hjn := HJ.out.join (hs := putP s.hs n k) (by rw [hput, List.map_append, List.set_append_right _ _ (by rw [HL1.out]; exact Nat.le_refl _), HL1.out, Nat.sub_self]; rfl) (by rw [hput, List.length_set, List.length_append, List.length_append, HATL.out, HN.out]; rfl) (fun i m him => by
      rw [hput] at him
      rw [List.set_append_right _ _ (by rw [HATL.out]; exact Nat.le_refl _), HATL.out, Nat.sub_self]
      by_cases hin : i < n
      · rw [List.getElem?_append_left (by rw [HN.out]; exact hin)] at him
        rw [List.getElem?_append_left (by rw [HATL.out]; exact hin)]
        exact HATV.out i m him
      · rw [List.getElem?_append_right (by rw [HN.out]; omega), HN.out] at him
        rw [List.getElem?_append_right (by rw [HATL.out]; omega), HATL.out]
        by_cases e : i - n = 0
        · rw [e] at him ⊢
          injection him with him
          injection him with him
          rw [him]
          rfl
        · obtain ⟨j, hj⟩ : ∃ j, i - n = j + 1 := ⟨i - n - 1, by omega⟩
          rw [hj] at him
          cases him)
    obtain ⟨D5, hr5, hd5, hl5⟩ := ((hjn.ahead HLY.out).step HDY.out HLUY.out).ahead HLV.out
    have FC := refCells _ g D5 _ hr5 HATP.out (by show (putP s.hs n k).length ≤ _; rw [hput, List.length_append, HN.out]; show n + 1 ≤ 1000000; omega) hpk
    have HFC := Lib.hid FC
    have HD5 := Lib.hid hd5
    have HL5 := Lib.hid hl5
    clear FC hjn hr5 hd5 hl5 hput
    go_wp2_with fail
    refine HFC.out.mono ?_
    rintro e w6 ⟨rfl, ht6⟩
    have HT6 := Lib.hid (ht6.step HD5.out HL5.out)
    clear ht6
    go_wp2_with fail
    refine bodyPost_ret (v := .tuple #[.int .i64 (n : Nat), .int .i64 0]) (by simp [results, Tryz.results45, go_sem]) rfl ?_
    rw [HA.out]
    exact ⟨rfl, HT6.out⟩
end Go.Proofs.YtimbbfneaaglbaaGreat.Heads
