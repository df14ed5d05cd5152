/-
  The walks of the law's pile.add, one for each operation. By an AI agent.
-/
import Derived.Test.YtdbgaccnejffpaaGreatDoorGSatDual40
import Derived.Deep.DrawnRows
namespace Go.Proofs.YtdbgaccnejffpaaGreatDoor.Tree
open Go.RowKit Go.Proofs.YtdbgaccnejffpaaGreatDoor.Ints
attribute [local go_sem ↓] Go.wp_at_zero Go.wp_at_succ
set_option maxHeartbeats 4000000 in
set_option maxRecDepth 100000 in
theorem add_8 (arg : Int) (Af Ar : Option Addr) (nf cf nr cr base : Nat) (F R : List SL) (w : World) (ha : 0 ≤ arg ∧ arg ≤ 100000) (hnf : F.length = nf) (hnr : R.length = nr) (hf : nf ≤ 100000) (hr : nr ≤ 100000) (hb : base ≤ w.heap.size) (hsF : Small F) (hsR : Small R)
  (hp : PileX 0 0 w base (.slice Af nf cf) (.slice Ar nr cr) F R) :
  Calls Tryz.prog 21 #[.agg #[.slice Af nf cf, .slice Ar nr cr], .int .i64 8, .int .i64 arg] w (GotPile w base (addL 8 arg (F.map (·.1)) (R.map (·.1)))) := by
 obtain ⟨j0, hj0, hy0, hy1, hy2⟩ := info_parts infoLists
 obtain ⟨ha1, ha2⟩ := ha
 have hfi : (nf : Int) ≤ 100000 := by omega
 have hri : (nr : Int) ≤ 100000 := by omega
 subst hnf
 subst hnr
 have HP0 := Lib.hid hp
 have HNF := Lib.hid (show F.length = F.length from rfl)
 have HNR := Lib.hid (show R.length = R.length from rfl)
 have HB := Lib.hid hb
 have HSF := Lib.hid hsF
 have HSR := Lib.hid hsR
 have HSZ := Lib.hid (add_size w)
 have HPX := Lib.hid (fun o1 o2 o3 => add_pile HP0.out o1 o2 o3)
 have HBX := Lib.hid (fun o1 o2 => add_box w o1 o2)
 have HF0 := Lib.hid hf
 have HR0 := Lib.hid hr
 clear hp hb hsF hsR hf hr
 obtain ⟨_, _, eL, hLc, -, -, -⟩ := HP0.out.1.slice
 have hLc' : F.length ≤ cf := by injection eL with e1 e2 e3; omega
 clear eL hLc
 by_cases h0 : 0 < F.length
 ·have HONE := Lib.hid (fun W (hb : Below w.heap.size w W) => lawOne (spanNd 8 arg) rfl Af F.length cf F (Off (.slice Ar R.length cr) w.heap.size (w.heap.size + 2)) W rfl h0 (by have := HF0.out; have := HR0.out; omega) hLc' (fun s hs => (HSF.out s hs).1) (spanNd_small _ _ (by omega) ⟨ha1, ha2⟩) (add_pile2 HP0.out hb).lists)
  have HH0 := Lib.hid h0
  clear hLc' h0
  go_enter Tryz.func21, Tryz.ntmps21
  go_wp2_with fail
  go_region_with (first
   | (go_at_call 7; refine (lawSpan arg _ ha1 ha2).mono ?_; rintro e w4 ⟨rfl, hb4⟩; have hB4 : Below w.heap.size w w4 := (add_two w _ _).drew.trans (hb4.mono (by simp; omega)); have hZ4 := Lib.hid (show w.heap.size + 2 ≤ w4.heap.size by have := hb4.size; simp at this; omega); have q0 := blk_below hb4 (blk_drew (blk_alloc (new_at w _))); have q1 := blk_below hb4 (blk_drew (new_at2 w _ _)); have q00 := blk_cell q0 0 _ rfl)
   | (go_at_call 26; refine (HONE.out _ hB4).mono ?_; rintro e w3 ⟨v3, τ, rfl, hown3, hτ, hb3⟩; obtain ⟨A3, c3, e3, -, -, -, -⟩ := hown3.slice; subst e3; have k0 := blk_below hb3 q0; have k1 := blk_below hb3 q1; have k00 := blk_cell k0 0 _ rfl; have k01 := blk_cell k0 1 _ rfl; have f00 := blk_frozen k0 0; have f01 := blk_frozen k0 1; have k10 := blk_cell k1 0 _ rfl; have k11 := blk_cell k1 1 _ rfl; have f10 := blk_frozen k1 0; have f11 := blk_frozen k1 1; have HP3 := Lib.hid ((add_pile2 HP0.out hB4).fresh hb3 hown3 (hZ4.out) (Nat.le_trans HB.out hB4.size)); have HB3 := Lib.hid ((hB4.mono HB.out).trans (hb3.mono (Nat.le_trans HB.out hB4.size))); have HT := Lib.hid hτ; clear k0 k1 hown3 hb3 hτ))
  all_goals go_wp2
  all_goals
   have he := end_cells (k := 0) (fv := .slice A3 τ.length c3) (rv := .slice Ar R.length cr) (x := .slice A3 τ.length c3) k10 k11
   unfold endW at he
   refine bodyPost_ret (v := .agg #[.slice A3 τ.length c3, .slice Ar R.length cr]) (by simp [results, Tryz.results21, go_sem, he]) rfl ⟨_, _, τ, R, rfl, pile_end (k := 0) (x := .slice A3 τ.length c3) HP3.out, ?_, below_end HB3.out HB.out⟩
   have hl : (F.map (·.1)).length = F.length := List.length_map _
   unfold addL
   rw [if_neg (by decide), if_neg (by decide), if_neg (by decide), if_neg (by decide), if_pos (by decide)]
   unfold oneL
   rw [hl, if_neg (by have := HH0.out; omega), HT.out]
 ·have HZ := Lib.hid (fun W => lawOne0n (spanNd 8 arg) Af F.length cf W (by omega))
  have HH0 := Lib.hid h0
  clear hLc' h0
  go_enter Tryz.func21, Tryz.ntmps21
  go_wp2_with fail
  go_region_with (first
   | (go_at_call 7; refine (lawSpan arg _ ha1 ha2).mono ?_; rintro e w4 ⟨rfl, hb4⟩; have hB4 : Below w.heap.size w w4 := (add_two w _ _).drew.trans (hb4.mono (by simp; omega)); have hZ4 := Lib.hid (show w.heap.size + 2 ≤ w4.heap.size by have := hb4.size; simp at this; omega); have q0 := blk_below hb4 (blk_drew (blk_alloc (new_at w _))); have q1 := blk_below hb4 (blk_drew (new_at2 w _ _)); have q00 := blk_cell q0 0 _ rfl)
   | (go_at_call 26; refine (HZ.out _).mono ?_; rintro e w3 ⟨rfl, hb3⟩; have k0 := blk_below hb3 q0; have k1 := blk_below hb3 q1; have k00 := blk_cell k0 0 _ rfl; have k01 := blk_cell k0 1 _ rfl; have f00 := blk_frozen k0 0; have f01 := blk_frozen k0 1; have k10 := blk_cell k1 0 _ rfl; have k11 := blk_cell k1 1 _ rfl; have f10 := blk_frozen k1 0; have f11 := blk_frozen k1 1; have HP3 := Lib.hid ((add_pile2 HP0.out hB4).below hb3); have HB3 := Lib.hid ((hB4.mono HB.out).trans (hb3.mono (Nat.le_trans HB.out hB4.size))); clear k0 k1 hb3))
  all_goals go_wp2
  all_goals
   have he := end_cells (k := 0) (fv := .slice Af F.length cf) (rv := .slice Ar R.length cr) (x := .slice Af F.length cf) k10 k11
   unfold endW at he
   refine bodyPost_ret (v := .agg #[.slice Af F.length cf, .slice Ar R.length cr]) (by simp [results, Tryz.results21, go_sem, he]) rfl ⟨_, _, F, R, rfl, pile_end (k := 0) (x := .slice Af F.length cf) HP3.out, ?_, below_end HB3.out HB.out⟩
   have hl : (F.map (·.1)).length = F.length := List.length_map _
   unfold addL
   rw [if_neg (by decide), if_neg (by decide), if_neg (by decide), if_neg (by decide), if_pos (by decide)]
   unfold oneL
   rw [hl, if_pos (by have := HH0.out; omega)]
set_option maxHeartbeats 4000000 in
set_option maxRecDepth 100000 in
theorem add_9 (arg : Int) (Af Ar : Option Addr) (nf cf nr cr base : Nat) (F R : List SL) (w : World) (ha : 0 ≤ arg ∧ arg ≤ 100000) (hnf : F.length = nf) (hnr : R.length = nr) (hf : nf ≤ 100000) (hr : nr ≤ 100000) (hb : base ≤ w.heap.size) (hsF : Small F) (hsR : Small R)
  (hp : PileX 0 0 w base (.slice Af nf cf) (.slice Ar nr cr) F R) :
  Calls Tryz.prog 21 #[.agg #[.slice Af nf cf, .slice Ar nr cr], .int .i64 9, .int .i64 arg] w (GotPile w base (addL 9 arg (F.map (·.1)) (R.map (·.1)))) := by
 obtain ⟨j0, hj0, hy0, hy1, hy2⟩ := info_parts infoLists
 obtain ⟨ha1, ha2⟩ := ha
 have hfi : (nf : Int) ≤ 100000 := by omega
 have hri : (nr : Int) ≤ 100000 := by omega
 subst hnf
 subst hnr
 have HP0 := Lib.hid hp
 have HNF := Lib.hid (show F.length = F.length from rfl)
 have HNR := Lib.hid (show R.length = R.length from rfl)
 have HB := Lib.hid hb
 have HSF := Lib.hid hsF
 have HSR := Lib.hid hsR
 have HSZ := Lib.hid (add_size w)
 have HPX := Lib.hid (fun o1 o2 o3 => add_pile HP0.out o1 o2 o3)
 have HBX := Lib.hid (fun o1 o2 => add_box w o1 o2)
 have HF0 := Lib.hid hf
 have HR0 := Lib.hid hr
 clear hp hb hsF hsR hf hr
 obtain ⟨_, _, eL, hLc, -, -, -⟩ := HP0.out.1.slice
 have hLc' : F.length ≤ cf := by injection eL with e1 e2 e3; omega
 clear eL hLc
 by_cases h0 : 0 < F.length
 ·have HONE := Lib.hid (fun W (hb : Below w.heap.size w W) => lawOne (spanNd 9 arg) rfl Af F.length cf F (Off (.slice Ar R.length cr) w.heap.size (w.heap.size + 2)) W rfl h0 (by have := HF0.out; have := HR0.out; omega) hLc' (fun s hs => (HSF.out s hs).1) (spanNd_small _ _ (by omega) ⟨ha1, ha2⟩) (add_pile2 HP0.out hb).lists)
  have HH0 := Lib.hid h0
  clear hLc' h0
  go_enter Tryz.func21, Tryz.ntmps21
  go_wp2_with fail
  go_region_with (first
   | (go_at_call 7; refine (lawSpan arg _ ha1 ha2).mono ?_; rintro e w4 ⟨rfl, hb4⟩; have hB4 : Below w.heap.size w w4 := (add_two w _ _).drew.trans (hb4.mono (by simp; omega)); have hZ4 := Lib.hid (show w.heap.size + 2 ≤ w4.heap.size by have := hb4.size; simp at this; omega); have q0 := blk_below hb4 (blk_drew (blk_alloc (new_at w _))); have q1 := blk_below hb4 (blk_drew (new_at2 w _ _)); have q00 := blk_cell q0 0 _ rfl)
   | (go_at_call 26; refine (HONE.out _ hB4).mono ?_; rintro e w3 ⟨v3, τ, rfl, hown3, hτ, hb3⟩; obtain ⟨A3, c3, e3, -, -, -, -⟩ := hown3.slice; subst e3; have k0 := blk_below hb3 q0; have k1 := blk_below hb3 q1; have k00 := blk_cell k0 0 _ rfl; have k01 := blk_cell k0 1 _ rfl; have f00 := blk_frozen k0 0; have f01 := blk_frozen k0 1; have k10 := blk_cell k1 0 _ rfl; have k11 := blk_cell k1 1 _ rfl; have f10 := blk_frozen k1 0; have f11 := blk_frozen k1 1; have HP3 := Lib.hid ((add_pile2 HP0.out hB4).fresh hb3 hown3 (hZ4.out) (Nat.le_trans HB.out hB4.size)); have HB3 := Lib.hid ((hB4.mono HB.out).trans (hb3.mono (Nat.le_trans HB.out hB4.size))); have HT := Lib.hid hτ; clear k0 k1 hown3 hb3 hτ))
  all_goals go_wp2
  all_goals
   have he := end_cells (k := 0) (fv := .slice A3 τ.length c3) (rv := .slice Ar R.length cr) (x := .slice A3 τ.length c3) k10 k11
   unfold endW at he
   refine bodyPost_ret (v := .agg #[.slice A3 τ.length c3, .slice Ar R.length cr]) (by simp [results, Tryz.results21, go_sem, he]) rfl ⟨_, _, τ, R, rfl, pile_end (k := 0) (x := .slice A3 τ.length c3) HP3.out, ?_, below_end HB3.out HB.out⟩
   have hl : (F.map (·.1)).length = F.length := List.length_map _
   unfold addL
   rw [if_neg (by decide), if_neg (by decide), if_neg (by decide), if_neg (by decide), if_pos (by decide)]
   unfold oneL
   rw [hl, if_neg (by have := HH0.out; omega), HT.out]
 ·have HZ := Lib.hid (fun W => lawOne0n (spanNd 9 arg) Af F.length cf W (by omega))
  have HH0 := Lib.hid h0
  clear hLc' h0
  go_enter Tryz.func21, Tryz.ntmps21
  go_wp2_with fail
  go_region_with (first
   | (go_at_call 7; refine (lawSpan arg _ ha1 ha2).mono ?_; rintro e w4 ⟨rfl, hb4⟩; have hB4 : Below w.heap.size w w4 := (add_two w _ _).drew.trans (hb4.mono (by simp; omega)); have hZ4 := Lib.hid (show w.heap.size + 2 ≤ w4.heap.size by have := hb4.size; simp at this; omega); have q0 := blk_below hb4 (blk_drew (blk_alloc (new_at w _))); have q1 := blk_below hb4 (blk_drew (new_at2 w _ _)); have q00 := blk_cell q0 0 _ rfl)
   | (go_at_call 26; refine (HZ.out _).mono ?_; rintro e w3 ⟨rfl, hb3⟩; have k0 := blk_below hb3 q0; have k1 := blk_below hb3 q1; have k00 := blk_cell k0 0 _ rfl; have k01 := blk_cell k0 1 _ rfl; have f00 := blk_frozen k0 0; have f01 := blk_frozen k0 1; have k10 := blk_cell k1 0 _ rfl; have k11 := blk_cell k1 1 _ rfl; have f10 := blk_frozen k1 0; have f11 := blk_frozen k1 1; have HP3 := Lib.hid ((add_pile2 HP0.out hB4).below hb3); have HB3 := Lib.hid ((hB4.mono HB.out).trans (hb3.mono (Nat.le_trans HB.out hB4.size))); clear k0 k1 hb3))
  all_goals go_wp2
  all_goals
   have he := end_cells (k := 0) (fv := .slice Af F.length cf) (rv := .slice Ar R.length cr) (x := .slice Af F.length cf) k10 k11
   unfold endW at he
   refine bodyPost_ret (v := .agg #[.slice Af F.length cf, .slice Ar R.length cr]) (by simp [results, Tryz.results21, go_sem, he]) rfl ⟨_, _, F, R, rfl, pile_end (k := 0) (x := .slice Af F.length cf) HP3.out, ?_, below_end HB3.out HB.out⟩
   have hl : (F.map (·.1)).length = F.length := List.length_map _
   unfold addL
   rw [if_neg (by decide), if_neg (by decide), if_neg (by decide), if_neg (by decide), if_pos (by decide)]
   unfold oneL
   rw [hl, if_pos (by have := HH0.out; omega)]
set_option maxHeartbeats 4000000 in
set_option maxRecDepth 100000 in
theorem add_10 (arg : Int) (Af Ar : Option Addr) (nf cf nr cr base : Nat) (F R : List SL) (w : World) (ha : 0 ≤ arg ∧ arg ≤ 100000) (hnf : F.length = nf) (hnr : R.length = nr) (hf : nf ≤ 100000) (hr : nr ≤ 100000) (hb : base ≤ w.heap.size) (hsF : Small F) (hsR : Small R)
  (hp : PileX 0 0 w base (.slice Af nf cf) (.slice Ar nr cr) F R) :
  Calls Tryz.prog 21 #[.agg #[.slice Af nf cf, .slice Ar nr cr], .int .i64 10, .int .i64 arg] w (GotPile w base (addL 10 arg (F.map (·.1)) (R.map (·.1)))) := by
 obtain ⟨j0, hj0, hy0, hy1, hy2⟩ := info_parts infoLists
 obtain ⟨ha1, ha2⟩ := ha
 have hfi : (nf : Int) ≤ 100000 := by omega
 have hri : (nr : Int) ≤ 100000 := by omega
 subst hnf
 subst hnr
 have HP0 := Lib.hid hp
 have HNF := Lib.hid (show F.length = F.length from rfl)
 have HNR := Lib.hid (show R.length = R.length from rfl)
 have HB := Lib.hid hb
 have HSF := Lib.hid hsF
 have HSR := Lib.hid hsR
 have HSZ := Lib.hid (add_size w)
 have HPX := Lib.hid (fun o1 o2 o3 => add_pile HP0.out o1 o2 o3)
 have HBX := Lib.hid (fun o1 o2 => add_box w o1 o2)
 have HF0 := Lib.hid hf
 have HR0 := Lib.hid hr
 clear hp hb hsF hsR hf hr
 obtain ⟨_, _, eL, hLc, -, -, -⟩ := HP0.out.1.slice
 have hLc' : F.length ≤ cf := by injection eL with e1 e2 e3; omega
 clear eL hLc
 by_cases h0 : 0 < F.length
 ·have HONE := Lib.hid (fun W (hb : Below w.heap.size w W) => lawOne (spanNd 10 arg) rfl Af F.length cf F (Off (.slice Ar R.length cr) w.heap.size (w.heap.size + 2)) W rfl h0 (by have := HF0.out; have := HR0.out; omega) hLc' (fun s hs => (HSF.out s hs).1) (spanNd_small _ _ (by omega) ⟨ha1, ha2⟩) (add_pile2 HP0.out hb).lists)
  have HH0 := Lib.hid h0
  clear hLc' h0
  go_enter Tryz.func21, Tryz.ntmps21
  go_wp2_with fail
  go_region_with (first
   | (go_at_call 7; refine (lawSpan arg _ ha1 ha2).mono ?_; rintro e w4 ⟨rfl, hb4⟩; have hB4 : Below w.heap.size w w4 := (add_two w _ _).drew.trans (hb4.mono (by simp; omega)); have hZ4 := Lib.hid (show w.heap.size + 2 ≤ w4.heap.size by have := hb4.size; simp at this; omega); have q0 := blk_below hb4 (blk_drew (blk_alloc (new_at w _))); have q1 := blk_below hb4 (blk_drew (new_at2 w _ _)); have q00 := blk_cell q0 0 _ rfl)
   | (go_at_call 26; refine (HONE.out _ hB4).mono ?_; rintro e w3 ⟨v3, τ, rfl, hown3, hτ, hb3⟩; obtain ⟨A3, c3, e3, -, -, -, -⟩ := hown3.slice; subst e3; have k0 := blk_below hb3 q0; have k1 := blk_below hb3 q1; have k00 := blk_cell k0 0 _ rfl; have k01 := blk_cell k0 1 _ rfl; have f00 := blk_frozen k0 0; have f01 := blk_frozen k0 1; have k10 := blk_cell k1 0 _ rfl; have k11 := blk_cell k1 1 _ rfl; have f10 := blk_frozen k1 0; have f11 := blk_frozen k1 1; have HP3 := Lib.hid ((add_pile2 HP0.out hB4).fresh hb3 hown3 (hZ4.out) (Nat.le_trans HB.out hB4.size)); have HB3 := Lib.hid ((hB4.mono HB.out).trans (hb3.mono (Nat.le_trans HB.out hB4.size))); have HT := Lib.hid hτ; clear k0 k1 hown3 hb3 hτ))
  all_goals go_wp2
  all_goals
   have he := end_cells (k := 0) (fv := .slice A3 τ.length c3) (rv := .slice Ar R.length cr) (x := .slice A3 τ.length c3) k10 k11
   unfold endW at he
   refine bodyPost_ret (v := .agg #[.slice A3 τ.length c3, .slice Ar R.length cr]) (by simp [results, Tryz.results21, go_sem, he]) rfl ⟨_, _, τ, R, rfl, pile_end (k := 0) (x := .slice A3 τ.length c3) HP3.out, ?_, below_end HB3.out HB.out⟩
   have hl : (F.map (·.1)).length = F.length := List.length_map _
   unfold addL
   rw [if_neg (by decide), if_neg (by decide), if_neg (by decide), if_neg (by decide), if_pos (by decide)]
   unfold oneL
   rw [hl, if_neg (by have := HH0.out; omega), HT.out]
 ·have HZ := Lib.hid (fun W => lawOne0n (spanNd 10 arg) Af F.length cf W (by omega))
  have HH0 := Lib.hid h0
  clear hLc' h0
  go_enter Tryz.func21, Tryz.ntmps21
  go_wp2_with fail
  go_region_with (first
   | (go_at_call 7; refine (lawSpan arg _ ha1 ha2).mono ?_; rintro e w4 ⟨rfl, hb4⟩; have hB4 : Below w.heap.size w w4 := (add_two w _ _).drew.trans (hb4.mono (by simp; omega)); have hZ4 := Lib.hid (show w.heap.size + 2 ≤ w4.heap.size by have := hb4.size; simp at this; omega); have q0 := blk_below hb4 (blk_drew (blk_alloc (new_at w _))); have q1 := blk_below hb4 (blk_drew (new_at2 w _ _)); have q00 := blk_cell q0 0 _ rfl)
   | (go_at_call 26; refine (HZ.out _).mono ?_; rintro e w3 ⟨rfl, hb3⟩; have k0 := blk_below hb3 q0; have k1 := blk_below hb3 q1; have k00 := blk_cell k0 0 _ rfl; have k01 := blk_cell k0 1 _ rfl; have f00 := blk_frozen k0 0; have f01 := blk_frozen k0 1; have k10 := blk_cell k1 0 _ rfl; have k11 := blk_cell k1 1 _ rfl; have f10 := blk_frozen k1 0; have f11 := blk_frozen k1 1; have HP3 := Lib.hid ((add_pile2 HP0.out hB4).below hb3); have HB3 := Lib.hid ((hB4.mono HB.out).trans (hb3.mono (Nat.le_trans HB.out hB4.size))); clear k0 k1 hb3))
  all_goals go_wp2
  all_goals
   have he := end_cells (k := 0) (fv := .slice Af F.length cf) (rv := .slice Ar R.length cr) (x := .slice Af F.length cf) k10 k11
   unfold endW at he
   refine bodyPost_ret (v := .agg #[.slice Af F.length cf, .slice Ar R.length cr]) (by simp [results, Tryz.results21, go_sem, he]) rfl ⟨_, _, F, R, rfl, pile_end (k := 0) (x := .slice Af F.length cf) HP3.out, ?_, below_end HB3.out HB.out⟩
   have hl : (F.map (·.1)).length = F.length := List.length_map _
   unfold addL
   rw [if_neg (by decide), if_neg (by decide), if_neg (by decide), if_neg (by decide), if_pos (by decide)]
   unfold oneL
   rw [hl, if_pos (by have := HH0.out; omega)]
set_option maxHeartbeats 4000000 in
set_option maxRecDepth 100000 in
theorem add_11 (arg : Int) (Af Ar : Option Addr) (nf cf nr cr base : Nat) (F R : List SL) (w : World) (ha : 0 ≤ arg ∧ arg ≤ 100000) (hnf : F.length = nf) (hnr : R.length = nr) (hf : nf ≤ 100000) (hr : nr ≤ 100000) (hb : base ≤ w.heap.size) (hsF : Small F) (hsR : Small R)
  (hp : PileX 0 0 w base (.slice Af nf cf) (.slice Ar nr cr) F R) :
  Calls Tryz.prog 21 #[.agg #[.slice Af nf cf, .slice Ar nr cr], .int .i64 11, .int .i64 arg] w (GotPile w base (addL 11 arg (F.map (·.1)) (R.map (·.1)))) := by
 obtain ⟨j0, hj0, hy0, hy1, hy2⟩ := info_parts infoLists
 obtain ⟨ha1, ha2⟩ := ha
 have hfi : (nf : Int) ≤ 100000 := by omega
 have hri : (nr : Int) ≤ 100000 := by omega
 subst hnf
 subst hnr
 have HP0 := Lib.hid hp
 have HNF := Lib.hid (show F.length = F.length from rfl)
 have HNR := Lib.hid (show R.length = R.length from rfl)
 have HB := Lib.hid hb
 have HSF := Lib.hid hsF
 have HSR := Lib.hid hsR
 have HSZ := Lib.hid (add_size w)
 have HPX := Lib.hid (fun o1 o2 o3 => add_pile HP0.out o1 o2 o3)
 have HBX := Lib.hid (fun o1 o2 => add_box w o1 o2)
 have HF0 := Lib.hid hf
 have HR0 := Lib.hid hr
 clear hp hb hsF hsR hf hr
 obtain ⟨_, _, eL, hLc, -, -, -⟩ := HP0.out.1.slice
 have hLc' : F.length ≤ cf := by injection eL with e1 e2 e3; omega
 clear eL hLc
 by_cases h0 : 0 < F.length
 ·have HONE := Lib.hid (fun W (hb : Below w.heap.size w W) => lawOne (spanNd 11 arg) rfl Af F.length cf F (Off (.slice Ar R.length cr) w.heap.size (w.heap.size + 2)) W rfl h0 (by have := HF0.out; have := HR0.out; omega) hLc' (fun s hs => (HSF.out s hs).1) (spanNd_small _ _ (by omega) ⟨ha1, ha2⟩) (add_pile2 HP0.out hb).lists)
  have HH0 := Lib.hid h0
  clear hLc' h0
  go_enter Tryz.func21, Tryz.ntmps21
  go_wp2_with fail
  go_region_with (first
   | (go_at_call 7; refine (lawSpan arg _ ha1 ha2).mono ?_; rintro e w4 ⟨rfl, hb4⟩; have hB4 : Below w.heap.size w w4 := (add_two w _ _).drew.trans (hb4.mono (by simp; omega)); have hZ4 := Lib.hid (show w.heap.size + 2 ≤ w4.heap.size by have := hb4.size; simp at this; omega); have q0 := blk_below hb4 (blk_drew (blk_alloc (new_at w _))); have q1 := blk_below hb4 (blk_drew (new_at2 w _ _)); have q00 := blk_cell q0 0 _ rfl)
   | (go_at_call 26; refine (HONE.out _ hB4).mono ?_; rintro e w3 ⟨v3, τ, rfl, hown3, hτ, hb3⟩; obtain ⟨A3, c3, e3, -, -, -, -⟩ := hown3.slice; subst e3; have k0 := blk_below hb3 q0; have k1 := blk_below hb3 q1; have k00 := blk_cell k0 0 _ rfl; have k01 := blk_cell k0 1 _ rfl; have f00 := blk_frozen k0 0; have f01 := blk_frozen k0 1; have k10 := blk_cell k1 0 _ rfl; have k11 := blk_cell k1 1 _ rfl; have f10 := blk_frozen k1 0; have f11 := blk_frozen k1 1; have HP3 := Lib.hid ((add_pile2 HP0.out hB4).fresh hb3 hown3 (hZ4.out) (Nat.le_trans HB.out hB4.size)); have HB3 := Lib.hid ((hB4.mono HB.out).trans (hb3.mono (Nat.le_trans HB.out hB4.size))); have HT := Lib.hid hτ; clear k0 k1 hown3 hb3 hτ))
  all_goals go_wp2
  all_goals
   have he := end_cells (k := 0) (fv := .slice A3 τ.length c3) (rv := .slice Ar R.length cr) (x := .slice A3 τ.length c3) k10 k11
   unfold endW at he
   refine bodyPost_ret (v := .agg #[.slice A3 τ.length c3, .slice Ar R.length cr]) (by simp [results, Tryz.results21, go_sem, he]) rfl ⟨_, _, τ, R, rfl, pile_end (k := 0) (x := .slice A3 τ.length c3) HP3.out, ?_, below_end HB3.out HB.out⟩
   have hl : (F.map (·.1)).length = F.length := List.length_map _
   unfold addL
   rw [if_neg (by decide), if_neg (by decide), if_neg (by decide), if_neg (by decide), if_pos (by decide)]
   unfold oneL
   rw [hl, if_neg (by have := HH0.out; omega), HT.out]
 ·have HZ := Lib.hid (fun W => lawOne0n (spanNd 11 arg) Af F.length cf W (by omega))
  have HH0 := Lib.hid h0
  clear hLc' h0
  go_enter Tryz.func21, Tryz.ntmps21
  go_wp2_with fail
  go_region_with (first
   | (go_at_call 7; refine (lawSpan arg _ ha1 ha2).mono ?_; rintro e w4 ⟨rfl, hb4⟩; have hB4 : Below w.heap.size w w4 := (add_two w _ _).drew.trans (hb4.mono (by simp; omega)); have hZ4 := Lib.hid (show w.heap.size + 2 ≤ w4.heap.size by have := hb4.size; simp at this; omega); have q0 := blk_below hb4 (blk_drew (blk_alloc (new_at w _))); have q1 := blk_below hb4 (blk_drew (new_at2 w _ _)); have q00 := blk_cell q0 0 _ rfl)
   | (go_at_call 26; refine (HZ.out _).mono ?_; rintro e w3 ⟨rfl, hb3⟩; have k0 := blk_below hb3 q0; have k1 := blk_below hb3 q1; have k00 := blk_cell k0 0 _ rfl; have k01 := blk_cell k0 1 _ rfl; have f00 := blk_frozen k0 0; have f01 := blk_frozen k0 1; have k10 := blk_cell k1 0 _ rfl; have k11 := blk_cell k1 1 _ rfl; have f10 := blk_frozen k1 0; have f11 := blk_frozen k1 1; have HP3 := Lib.hid ((add_pile2 HP0.out hB4).below hb3); have HB3 := Lib.hid ((hB4.mono HB.out).trans (hb3.mono (Nat.le_trans HB.out hB4.size))); clear k0 k1 hb3))
  all_goals go_wp2
  all_goals
   have he := end_cells (k := 0) (fv := .slice Af F.length cf) (rv := .slice Ar R.length cr) (x := .slice Af F.length cf) k10 k11
   unfold endW at he
   refine bodyPost_ret (v := .agg #[.slice Af F.length cf, .slice Ar R.length cr]) (by simp [results, Tryz.results21, go_sem, he]) rfl ⟨_, _, F, R, rfl, pile_end (k := 0) (x := .slice Af F.length cf) HP3.out, ?_, below_end HB3.out HB.out⟩
   have hl : (F.map (·.1)).length = F.length := List.length_map _
   unfold addL
   rw [if_neg (by decide), if_neg (by decide), if_neg (by decide), if_neg (by decide), if_pos (by decide)]
   unfold oneL
   rw [hl, if_pos (by have := HH0.out; omega)]
set_option maxHeartbeats 4000000 in
set_option maxRecDepth 100000 in
theorem add_12 (arg : Int) (Af Ar : Option Addr) (nf cf nr cr base : Nat) (F R : List SL) (w : World) (ha : 0 ≤ arg ∧ arg ≤ 100000) (hnf : F.length = nf) (hnr : R.length = nr) (hf : nf ≤ 100000) (hr : nr ≤ 100000) (hb : base ≤ w.heap.size) (hsF : Small F) (hsR : Small R)
  (hp : PileX 0 0 w base (.slice Af nf cf) (.slice Ar nr cr) F R) :
  Calls Tryz.prog 21 #[.agg #[.slice Af nf cf, .slice Ar nr cr], .int .i64 12, .int .i64 arg] w (GotPile w base (addL 12 arg (F.map (·.1)) (R.map (·.1)))) := by
 obtain ⟨j0, hj0, hy0, hy1, hy2⟩ := info_parts infoLists
 obtain ⟨ha1, ha2⟩ := ha
 have hfi : (nf : Int) ≤ 100000 := by omega
 have hri : (nr : Int) ≤ 100000 := by omega
 subst hnf
 subst hnr
 have HP0 := Lib.hid hp
 have HNF := Lib.hid (show F.length = F.length from rfl)
 have HNR := Lib.hid (show R.length = R.length from rfl)
 have HB := Lib.hid hb
 have HSF := Lib.hid hsF
 have HSR := Lib.hid hsR
 have HSZ := Lib.hid (add_size w)
 have HPX := Lib.hid (fun o1 o2 o3 => add_pile HP0.out o1 o2 o3)
 have HBX := Lib.hid (fun o1 o2 => add_box w o1 o2)
 have HF0 := Lib.hid hf
 have HR0 := Lib.hid hr
 clear hp hb hsF hsR hf hr
 obtain ⟨_, _, eL, hLc, -, -, -⟩ := HP0.out.1.slice
 have hLc' : F.length ≤ cf := by injection eL with e1 e2 e3; omega
 clear eL hLc
 by_cases h0 : 0 < F.length
 ·have HONE := Lib.hid (fun W (hb : Below w.heap.size w W) => lawOne (spanNd 12 arg) rfl Af F.length cf F (Off (.slice Ar R.length cr) w.heap.size (w.heap.size + 2)) W rfl h0 (by have := HF0.out; have := HR0.out; omega) hLc' (fun s hs => (HSF.out s hs).1) (spanNd_small _ _ (by omega) ⟨ha1, ha2⟩) (add_pile2 HP0.out hb).lists)
  have HH0 := Lib.hid h0
  clear hLc' h0
  go_enter Tryz.func21, Tryz.ntmps21
  go_wp2_with fail
  go_region_with (first
   | (go_at_call 7; refine (lawSpan arg _ ha1 ha2).mono ?_; rintro e w4 ⟨rfl, hb4⟩; have hB4 : Below w.heap.size w w4 := (add_two w _ _).drew.trans (hb4.mono (by simp; omega)); have hZ4 := Lib.hid (show w.heap.size + 2 ≤ w4.heap.size by have := hb4.size; simp at this; omega); have q0 := blk_below hb4 (blk_drew (blk_alloc (new_at w _))); have q1 := blk_below hb4 (blk_drew (new_at2 w _ _)); have q00 := blk_cell q0 0 _ rfl)
   | (go_at_call 26; refine (HONE.out _ hB4).mono ?_; rintro e w3 ⟨v3, τ, rfl, hown3, hτ, hb3⟩; obtain ⟨A3, c3, e3, -, -, -, -⟩ := hown3.slice; subst e3; have k0 := blk_below hb3 q0; have k1 := blk_below hb3 q1; have k00 := blk_cell k0 0 _ rfl; have k01 := blk_cell k0 1 _ rfl; have f00 := blk_frozen k0 0; have f01 := blk_frozen k0 1; have k10 := blk_cell k1 0 _ rfl; have k11 := blk_cell k1 1 _ rfl; have f10 := blk_frozen k1 0; have f11 := blk_frozen k1 1; have HP3 := Lib.hid ((add_pile2 HP0.out hB4).fresh hb3 hown3 (hZ4.out) (Nat.le_trans HB.out hB4.size)); have HB3 := Lib.hid ((hB4.mono HB.out).trans (hb3.mono (Nat.le_trans HB.out hB4.size))); have HT := Lib.hid hτ; clear k0 k1 hown3 hb3 hτ))
  all_goals go_wp2
  all_goals
   have he := end_cells (k := 0) (fv := .slice A3 τ.length c3) (rv := .slice Ar R.length cr) (x := .slice A3 τ.length c3) k10 k11
   unfold endW at he
   refine bodyPost_ret (v := .agg #[.slice A3 τ.length c3, .slice Ar R.length cr]) (by simp [results, Tryz.results21, go_sem, he]) rfl ⟨_, _, τ, R, rfl, pile_end (k := 0) (x := .slice A3 τ.length c3) HP3.out, ?_, below_end HB3.out HB.out⟩
   have hl : (F.map (·.1)).length = F.length := List.length_map _
   unfold addL
   rw [if_neg (by decide), if_neg (by decide), if_neg (by decide), if_neg (by decide), if_pos (by decide)]
   unfold oneL
   rw [hl, if_neg (by have := HH0.out; omega), HT.out]
 ·have HZ := Lib.hid (fun W => lawOne0n (spanNd 12 arg) Af F.length cf W (by omega))
  have HH0 := Lib.hid h0
  clear hLc' h0
  go_enter Tryz.func21, Tryz.ntmps21
  go_wp2_with fail
  go_region_with (first
   | (go_at_call 7; refine (lawSpan arg _ ha1 ha2).mono ?_; rintro e w4 ⟨rfl, hb4⟩; have hB4 : Below w.heap.size w w4 := (add_two w _ _).drew.trans (hb4.mono (by simp; omega)); have hZ4 := Lib.hid (show w.heap.size + 2 ≤ w4.heap.size by have := hb4.size; simp at this; omega); have q0 := blk_below hb4 (blk_drew (blk_alloc (new_at w _))); have q1 := blk_below hb4 (blk_drew (new_at2 w _ _)); have q00 := blk_cell q0 0 _ rfl)
   | (go_at_call 26; refine (HZ.out _).mono ?_; rintro e w3 ⟨rfl, hb3⟩; have k0 := blk_below hb3 q0; have k1 := blk_below hb3 q1; have k00 := blk_cell k0 0 _ rfl; have k01 := blk_cell k0 1 _ rfl; have f00 := blk_frozen k0 0; have f01 := blk_frozen k0 1; have k10 := blk_cell k1 0 _ rfl; have k11 := blk_cell k1 1 _ rfl; have f10 := blk_frozen k1 0; have f11 := blk_frozen k1 1; have HP3 := Lib.hid ((add_pile2 HP0.out hB4).below hb3); have HB3 := Lib.hid ((hB4.mono HB.out).trans (hb3.mono (Nat.le_trans HB.out hB4.size))); clear k0 k1 hb3))
  all_goals go_wp2
  all_goals
   have he := end_cells (k := 0) (fv := .slice Af F.length cf) (rv := .slice Ar R.length cr) (x := .slice Af F.length cf) k10 k11
   unfold endW at he
   refine bodyPost_ret (v := .agg #[.slice Af F.length cf, .slice Ar R.length cr]) (by simp [results, Tryz.results21, go_sem, he]) rfl ⟨_, _, F, R, rfl, pile_end (k := 0) (x := .slice Af F.length cf) HP3.out, ?_, below_end HB3.out HB.out⟩
   have hl : (F.map (·.1)).length = F.length := List.length_map _
   unfold addL
   rw [if_neg (by decide), if_neg (by decide), if_neg (by decide), if_neg (by decide), if_pos (by decide)]
   unfold oneL
   rw [hl, if_pos (by have := HH0.out; omega)]
set_option maxHeartbeats 4000000 in
set_option maxRecDepth 100000 in
theorem add_13 (arg : Int) (Af Ar : Option Addr) (nf cf nr cr base : Nat) (F R : List SL) (w : World) (ha : 0 ≤ arg ∧ arg ≤ 100000) (hnf : F.length = nf) (hnr : R.length = nr) (hf : nf ≤ 100000) (hr : nr ≤ 100000) (hb : base ≤ w.heap.size) (hsF : Small F) (hsR : Small R)
  (hp : PileX 0 0 w base (.slice Af nf cf) (.slice Ar nr cr) F R) :
  Calls Tryz.prog 21 #[.agg #[.slice Af nf cf, .slice Ar nr cr], .int .i64 13, .int .i64 arg] w (GotPile w base (addL 13 arg (F.map (·.1)) (R.map (·.1)))) := by
 obtain ⟨j0, hj0, hy0, hy1, hy2⟩ := info_parts infoLists
 obtain ⟨ha1, ha2⟩ := ha
 have hfi : (nf : Int) ≤ 100000 := by omega
 have hri : (nr : Int) ≤ 100000 := by omega
 subst hnf
 subst hnr
 have HP0 := Lib.hid hp
 have HNF := Lib.hid (show F.length = F.length from rfl)
 have HNR := Lib.hid (show R.length = R.length from rfl)
 have HB := Lib.hid hb
 have HSF := Lib.hid hsF
 have HSR := Lib.hid hsR
 have HSZ := Lib.hid (add_size w)
 have HPX := Lib.hid (fun o1 o2 o3 => add_pile HP0.out o1 o2 o3)
 have HBX := Lib.hid (fun o1 o2 => add_box w o1 o2)
 have HF0 := Lib.hid hf
 have HR0 := Lib.hid hr
 clear hp hb hsF hsR hf hr
 obtain ⟨_, _, eL, hLc, -, -, -⟩ := HP0.out.1.slice
 have hLc' : F.length ≤ cf := by injection eL with e1 e2 e3; omega
 clear eL hLc
 by_cases h0 : 0 < F.length
 ·have HONE := Lib.hid (fun W (hb : Below w.heap.size w W) => lawOne (spanNd 13 arg) rfl Af F.length cf F (Off (.slice Ar R.length cr) w.heap.size (w.heap.size + 2)) W rfl h0 (by have := HF0.out; have := HR0.out; omega) hLc' (fun s hs => (HSF.out s hs).1) (spanNd_small _ _ (by omega) ⟨ha1, ha2⟩) (add_pile2 HP0.out hb).lists)
  have HH0 := Lib.hid h0
  clear hLc' h0
  go_enter Tryz.func21, Tryz.ntmps21
  go_wp2_with fail
  go_region_with (first
   | (go_at_call 7; refine (lawSpan arg _ ha1 ha2).mono ?_; rintro e w4 ⟨rfl, hb4⟩; have hB4 : Below w.heap.size w w4 := (add_two w _ _).drew.trans (hb4.mono (by simp; omega)); have hZ4 := Lib.hid (show w.heap.size + 2 ≤ w4.heap.size by have := hb4.size; simp at this; omega); have q0 := blk_below hb4 (blk_drew (blk_alloc (new_at w _))); have q1 := blk_below hb4 (blk_drew (new_at2 w _ _)); have q00 := blk_cell q0 0 _ rfl)
   | (go_at_call 26; refine (HONE.out _ hB4).mono ?_; rintro e w3 ⟨v3, τ, rfl, hown3, hτ, hb3⟩; obtain ⟨A3, c3, e3, -, -, -, -⟩ := hown3.slice; subst e3; have k0 := blk_below hb3 q0; have k1 := blk_below hb3 q1; have k00 := blk_cell k0 0 _ rfl; have k01 := blk_cell k0 1 _ rfl; have f00 := blk_frozen k0 0; have f01 := blk_frozen k0 1; have k10 := blk_cell k1 0 _ rfl; have k11 := blk_cell k1 1 _ rfl; have f10 := blk_frozen k1 0; have f11 := blk_frozen k1 1; have HP3 := Lib.hid ((add_pile2 HP0.out hB4).fresh hb3 hown3 (hZ4.out) (Nat.le_trans HB.out hB4.size)); have HB3 := Lib.hid ((hB4.mono HB.out).trans (hb3.mono (Nat.le_trans HB.out hB4.size))); have HT := Lib.hid hτ; clear k0 k1 hown3 hb3 hτ))
  all_goals go_wp2
  all_goals
   have he := end_cells (k := 0) (fv := .slice A3 τ.length c3) (rv := .slice Ar R.length cr) (x := .slice A3 τ.length c3) k10 k11
   unfold endW at he
   refine bodyPost_ret (v := .agg #[.slice A3 τ.length c3, .slice Ar R.length cr]) (by simp [results, Tryz.results21, go_sem, he]) rfl ⟨_, _, τ, R, rfl, pile_end (k := 0) (x := .slice A3 τ.length c3) HP3.out, ?_, below_end HB3.out HB.out⟩
   have hl : (F.map (·.1)).length = F.length := List.length_map _
   unfold addL
   rw [if_neg (by decide), if_neg (by decide), if_neg (by decide), if_neg (by decide), if_pos (by decide)]
   unfold oneL
   rw [hl, if_neg (by have := HH0.out; omega), HT.out]
 ·have HZ := Lib.hid (fun W => lawOne0n (spanNd 13 arg) Af F.length cf W (by omega))
  have HH0 := Lib.hid h0
  clear hLc' h0
  go_enter Tryz.func21, Tryz.ntmps21
  go_wp2_with fail
  go_region_with (first
   | (go_at_call 7; refine (lawSpan arg _ ha1 ha2).mono ?_; rintro e w4 ⟨rfl, hb4⟩; have hB4 : Below w.heap.size w w4 := (add_two w _ _).drew.trans (hb4.mono (by simp; omega)); have hZ4 := Lib.hid (show w.heap.size + 2 ≤ w4.heap.size by have := hb4.size; simp at this; omega); have q0 := blk_below hb4 (blk_drew (blk_alloc (new_at w _))); have q1 := blk_below hb4 (blk_drew (new_at2 w _ _)); have q00 := blk_cell q0 0 _ rfl)
   | (go_at_call 26; refine (HZ.out _).mono ?_; rintro e w3 ⟨rfl, hb3⟩; have k0 := blk_below hb3 q0; have k1 := blk_below hb3 q1; have k00 := blk_cell k0 0 _ rfl; have k01 := blk_cell k0 1 _ rfl; have f00 := blk_frozen k0 0; have f01 := blk_frozen k0 1; have k10 := blk_cell k1 0 _ rfl; have k11 := blk_cell k1 1 _ rfl; have f10 := blk_frozen k1 0; have f11 := blk_frozen k1 1; have HP3 := Lib.hid ((add_pile2 HP0.out hB4).below hb3); have HB3 := Lib.hid ((hB4.mono HB.out).trans (hb3.mono (Nat.le_trans HB.out hB4.size))); clear k0 k1 hb3))
  all_goals go_wp2
  all_goals
   have he := end_cells (k := 0) (fv := .slice Af F.length cf) (rv := .slice Ar R.length cr) (x := .slice Af F.length cf) k10 k11
   unfold endW at he
   refine bodyPost_ret (v := .agg #[.slice Af F.length cf, .slice Ar R.length cr]) (by simp [results, Tryz.results21, go_sem, he]) rfl ⟨_, _, F, R, rfl, pile_end (k := 0) (x := .slice Af F.length cf) HP3.out, ?_, below_end HB3.out HB.out⟩
   have hl : (F.map (·.1)).length = F.length := List.length_map _
   unfold addL
   rw [if_neg (by decide), if_neg (by decide), if_neg (by decide), if_neg (by decide), if_pos (by decide)]
   unfold oneL
   rw [hl, if_pos (by have := HH0.out; omega)]
set_option maxHeartbeats 4000000 in
set_option maxRecDepth 100000 in
theorem add_14 (arg : Int) (Af Ar : Option Addr) (nf cf nr cr base : Nat) (F R : List SL) (w : World) (ha : 0 ≤ arg ∧ arg ≤ 100000) (hnf : F.length = nf) (hnr : R.length = nr) (hf : nf ≤ 100000) (hr : nr ≤ 100000) (hb : base ≤ w.heap.size) (hsF : Small F) (hsR : Small R)
  (hp : PileX 0 0 w base (.slice Af nf cf) (.slice Ar nr cr) F R) :
  Calls Tryz.prog 21 #[.agg #[.slice Af nf cf, .slice Ar nr cr], .int .i64 14, .int .i64 arg] w (GotPile w base (addL 14 arg (F.map (·.1)) (R.map (·.1)))) := by
 obtain ⟨j0, hj0, hy0, hy1, hy2⟩ := info_parts infoLists
 obtain ⟨ha1, ha2⟩ := ha
 have hfi : (nf : Int) ≤ 100000 := by omega
 have hri : (nr : Int) ≤ 100000 := by omega
 subst hnf
 subst hnr
 have HP0 := Lib.hid hp
 have HNF := Lib.hid (show F.length = F.length from rfl)
 have HNR := Lib.hid (show R.length = R.length from rfl)
 have HB := Lib.hid hb
 have HSF := Lib.hid hsF
 have HSR := Lib.hid hsR
 have HSZ := Lib.hid (add_size w)
 have HPX := Lib.hid (fun o1 o2 o3 => add_pile HP0.out o1 o2 o3)
 have HBX := Lib.hid (fun o1 o2 => add_box w o1 o2)
 have HF0 := Lib.hid hf
 have HR0 := Lib.hid hr
 clear hp hb hsF hsR hf hr
 obtain ⟨_, _, eL, hLc, -, -, -⟩ := HP0.out.1.slice
 have hLc' : F.length ≤ cf := by injection eL with e1 e2 e3; omega
 clear eL hLc
 by_cases h0 : 1 < F.length
 ·have HONE := Lib.hid (fun W (hb : Below w.heap.size w W) => lawTwo (spanNd 14 arg) rfl Af F.length cf F (Off (.slice Ar R.length cr) w.heap.size (w.heap.size + 2)) W rfl h0 (by have := HF0.out; have := HR0.out; omega) hLc' (fun s hs => (HSF.out s hs).1) (spanNd_small _ _ (by omega) ⟨ha1, ha2⟩) (fun s hs => (HSF.out s hs).2) (add_pile2 HP0.out hb).lists)
  have HH0 := Lib.hid h0
  clear hLc' h0
  go_enter Tryz.func21, Tryz.ntmps21
  go_wp2_with fail
  go_region_with (first
   | (go_at_call 7; refine (lawSpan arg _ ha1 ha2).mono ?_; rintro e w4 ⟨rfl, hb4⟩; have hB4 : Below w.heap.size w w4 := (add_two w _ _).drew.trans (hb4.mono (by simp; omega)); have hZ4 := Lib.hid (show w.heap.size + 2 ≤ w4.heap.size by have := hb4.size; simp at this; omega); have q0 := blk_below hb4 (blk_drew (blk_alloc (new_at w _))); have q1 := blk_below hb4 (blk_drew (new_at2 w _ _)); have q00 := blk_cell q0 0 _ rfl)
   | (go_at_call 27; refine (HONE.out _ hB4).mono ?_; rintro e w3 ⟨v3, τ, rfl, hown3, hτ, hb3⟩; obtain ⟨A3, c3, e3, -, -, -, -⟩ := hown3.slice; subst e3; have k0 := blk_below hb3 q0; have k1 := blk_below hb3 q1; have k00 := blk_cell k0 0 _ rfl; have k01 := blk_cell k0 1 _ rfl; have f00 := blk_frozen k0 0; have f01 := blk_frozen k0 1; have k10 := blk_cell k1 0 _ rfl; have k11 := blk_cell k1 1 _ rfl; have f10 := blk_frozen k1 0; have f11 := blk_frozen k1 1; have HP3 := Lib.hid ((add_pile2 HP0.out hB4).fresh hb3 hown3 (hZ4.out) (Nat.le_trans HB.out hB4.size)); have HB3 := Lib.hid ((hB4.mono HB.out).trans (hb3.mono (Nat.le_trans HB.out hB4.size))); have HT := Lib.hid hτ; clear k0 k1 hown3 hb3 hτ))
  all_goals go_wp2
  all_goals
   have he := end_cells (k := 0) (fv := .slice A3 τ.length c3) (rv := .slice Ar R.length cr) (x := .slice A3 τ.length c3) k10 k11
   unfold endW at he
   refine bodyPost_ret (v := .agg #[.slice A3 τ.length c3, .slice Ar R.length cr]) (by simp [results, Tryz.results21, go_sem, he]) rfl ⟨_, _, τ, R, rfl, pile_end (k := 0) (x := .slice A3 τ.length c3) HP3.out, ?_, below_end HB3.out HB.out⟩
   have hl : (F.map (·.1)).length = F.length := List.length_map _
   unfold addL
   rw [if_neg (by decide), if_neg (by decide), if_neg (by decide), if_neg (by decide), if_neg (by decide), if_pos (by decide)]
   unfold twoL
   rw [hl, if_neg (by have := HH0.out; omega), HT.out]
 ·have HZ := Lib.hid (fun W => lawTwo0n (spanNd 14 arg) Af F.length cf W (by omega))
  have HH0 := Lib.hid h0
  clear hLc' h0
  go_enter Tryz.func21, Tryz.ntmps21
  go_wp2_with fail
  go_region_with (first
   | (go_at_call 7; refine (lawSpan arg _ ha1 ha2).mono ?_; rintro e w4 ⟨rfl, hb4⟩; have hB4 : Below w.heap.size w w4 := (add_two w _ _).drew.trans (hb4.mono (by simp; omega)); have hZ4 := Lib.hid (show w.heap.size + 2 ≤ w4.heap.size by have := hb4.size; simp at this; omega); have q0 := blk_below hb4 (blk_drew (blk_alloc (new_at w _))); have q1 := blk_below hb4 (blk_drew (new_at2 w _ _)); have q00 := blk_cell q0 0 _ rfl)
   | (go_at_call 27; refine (HZ.out _).mono ?_; rintro e w3 ⟨rfl, hb3⟩; have k0 := blk_below hb3 q0; have k1 := blk_below hb3 q1; have k00 := blk_cell k0 0 _ rfl; have k01 := blk_cell k0 1 _ rfl; have f00 := blk_frozen k0 0; have f01 := blk_frozen k0 1; have k10 := blk_cell k1 0 _ rfl; have k11 := blk_cell k1 1 _ rfl; have f10 := blk_frozen k1 0; have f11 := blk_frozen k1 1; have HP3 := Lib.hid ((add_pile2 HP0.out hB4).below hb3); have HB3 := Lib.hid ((hB4.mono HB.out).trans (hb3.mono (Nat.le_trans HB.out hB4.size))); clear k0 k1 hb3))
  all_goals go_wp2
  all_goals
   have he := end_cells (k := 0) (fv := .slice Af F.length cf) (rv := .slice Ar R.length cr) (x := .slice Af F.length cf) k10 k11
   unfold endW at he
   refine bodyPost_ret (v := .agg #[.slice Af F.length cf, .slice Ar R.length cr]) (by simp [results, Tryz.results21, go_sem, he]) rfl ⟨_, _, F, R, rfl, pile_end (k := 0) (x := .slice Af F.length cf) HP3.out, ?_, below_end HB3.out HB.out⟩
   have hl : (F.map (·.1)).length = F.length := List.length_map _
   unfold addL
   rw [if_neg (by decide), if_neg (by decide), if_neg (by decide), if_neg (by decide), if_neg (by decide), if_pos (by decide)]
   unfold twoL
   rw [hl, if_pos (by have := HH0.out; omega)]
set_option maxHeartbeats 4000000 in
set_option maxRecDepth 100000 in
theorem add_15 (arg : Int) (Af Ar : Option Addr) (nf cf nr cr base : Nat) (F R : List SL) (w : World) (ha : 0 ≤ arg ∧ arg ≤ 100000) (hnf : F.length = nf) (hnr : R.length = nr) (hf : nf ≤ 100000) (hr : nr ≤ 100000) (hb : base ≤ w.heap.size) (hsF : Small F) (hsR : Small R)
  (hp : PileX 0 0 w base (.slice Af nf cf) (.slice Ar nr cr) F R) :
  Calls Tryz.prog 21 #[.agg #[.slice Af nf cf, .slice Ar nr cr], .int .i64 15, .int .i64 arg] w (GotPile w base (addL 15 arg (F.map (·.1)) (R.map (·.1)))) := by
 obtain ⟨j0, hj0, hy0, hy1, hy2⟩ := info_parts infoLists
 obtain ⟨ha1, ha2⟩ := ha
 have hfi : (nf : Int) ≤ 100000 := by omega
 have hri : (nr : Int) ≤ 100000 := by omega
 subst hnf
 subst hnr
 have HP0 := Lib.hid hp
 have HNF := Lib.hid (show F.length = F.length from rfl)
 have HNR := Lib.hid (show R.length = R.length from rfl)
 have HB := Lib.hid hb
 have HSF := Lib.hid hsF
 have HSR := Lib.hid hsR
 have HSZ := Lib.hid (add_size w)
 have HPX := Lib.hid (fun o1 o2 o3 => add_pile HP0.out o1 o2 o3)
 have HBX := Lib.hid (fun o1 o2 => add_box w o1 o2)
 have HF0 := Lib.hid hf
 have HR0 := Lib.hid hr
 clear hp hb hsF hsR hf hr
 obtain ⟨_, _, eL, hLc, -, -, -⟩ := HP0.out.1.slice
 have hLc' : F.length ≤ cf := by injection eL with e1 e2 e3; omega
 clear eL hLc
 by_cases h0 : 1 < F.length
 ·have HONE := Lib.hid (fun W (hb : Below w.heap.size w W) => lawTwo (spanNd 15 arg) rfl Af F.length cf F (Off (.slice Ar R.length cr) w.heap.size (w.heap.size + 2)) W rfl h0 (by have := HF0.out; have := HR0.out; omega) hLc' (fun s hs => (HSF.out s hs).1) (spanNd_small _ _ (by omega) ⟨ha1, ha2⟩) (fun s hs => (HSF.out s hs).2) (add_pile2 HP0.out hb).lists)
  have HH0 := Lib.hid h0
  clear hLc' h0
  go_enter Tryz.func21, Tryz.ntmps21
  go_wp2_with fail
  go_region_with (first
   | (go_at_call 7; refine (lawSpan arg _ ha1 ha2).mono ?_; rintro e w4 ⟨rfl, hb4⟩; have hB4 : Below w.heap.size w w4 := (add_two w _ _).drew.trans (hb4.mono (by simp; omega)); have hZ4 := Lib.hid (show w.heap.size + 2 ≤ w4.heap.size by have := hb4.size; simp at this; omega); have q0 := blk_below hb4 (blk_drew (blk_alloc (new_at w _))); have q1 := blk_below hb4 (blk_drew (new_at2 w _ _)); have q00 := blk_cell q0 0 _ rfl)
   | (go_at_call 27; refine (HONE.out _ hB4).mono ?_; rintro e w3 ⟨v3, τ, rfl, hown3, hτ, hb3⟩; obtain ⟨A3, c3, e3, -, -, -, -⟩ := hown3.slice; subst e3; have k0 := blk_below hb3 q0; have k1 := blk_below hb3 q1; have k00 := blk_cell k0 0 _ rfl; have k01 := blk_cell k0 1 _ rfl; have f00 := blk_frozen k0 0; have f01 := blk_frozen k0 1; have k10 := blk_cell k1 0 _ rfl; have k11 := blk_cell k1 1 _ rfl; have f10 := blk_frozen k1 0; have f11 := blk_frozen k1 1; have HP3 := Lib.hid ((add_pile2 HP0.out hB4).fresh hb3 hown3 (hZ4.out) (Nat.le_trans HB.out hB4.size)); have HB3 := Lib.hid ((hB4.mono HB.out).trans (hb3.mono (Nat.le_trans HB.out hB4.size))); have HT := Lib.hid hτ; clear k0 k1 hown3 hb3 hτ))
  all_goals go_wp2
  all_goals
   have he := end_cells (k := 0) (fv := .slice A3 τ.length c3) (rv := .slice Ar R.length cr) (x := .slice A3 τ.length c3) k10 k11
   unfold endW at he
   refine bodyPost_ret (v := .agg #[.slice A3 τ.length c3, .slice Ar R.length cr]) (by simp [results, Tryz.results21, go_sem, he]) rfl ⟨_, _, τ, R, rfl, pile_end (k := 0) (x := .slice A3 τ.length c3) HP3.out, ?_, below_end HB3.out HB.out⟩
   have hl : (F.map (·.1)).length = F.length := List.length_map _
   unfold addL
   rw [if_neg (by decide), if_neg (by decide), if_neg (by decide), if_neg (by decide), if_neg (by decide), if_pos (by decide)]
   unfold twoL
   rw [hl, if_neg (by have := HH0.out; omega), HT.out]
 ·have HZ := Lib.hid (fun W => lawTwo0n (spanNd 15 arg) Af F.length cf W (by omega))
  have HH0 := Lib.hid h0
  clear hLc' h0
  go_enter Tryz.func21, Tryz.ntmps21
  go_wp2_with fail
  go_region_with (first
   | (go_at_call 7; refine (lawSpan arg _ ha1 ha2).mono ?_; rintro e w4 ⟨rfl, hb4⟩; have hB4 : Below w.heap.size w w4 := (add_two w _ _).drew.trans (hb4.mono (by simp; omega)); have hZ4 := Lib.hid (show w.heap.size + 2 ≤ w4.heap.size by have := hb4.size; simp at this; omega); have q0 := blk_below hb4 (blk_drew (blk_alloc (new_at w _))); have q1 := blk_below hb4 (blk_drew (new_at2 w _ _)); have q00 := blk_cell q0 0 _ rfl)
   | (go_at_call 27; refine (HZ.out _).mono ?_; rintro e w3 ⟨rfl, hb3⟩; have k0 := blk_below hb3 q0; have k1 := blk_below hb3 q1; have k00 := blk_cell k0 0 _ rfl; have k01 := blk_cell k0 1 _ rfl; have f00 := blk_frozen k0 0; have f01 := blk_frozen k0 1; have k10 := blk_cell k1 0 _ rfl; have k11 := blk_cell k1 1 _ rfl; have f10 := blk_frozen k1 0; have f11 := blk_frozen k1 1; have HP3 := Lib.hid ((add_pile2 HP0.out hB4).below hb3); have HB3 := Lib.hid ((hB4.mono HB.out).trans (hb3.mono (Nat.le_trans HB.out hB4.size))); clear k0 k1 hb3))
  all_goals go_wp2
  all_goals
   have he := end_cells (k := 0) (fv := .slice Af F.length cf) (rv := .slice Ar R.length cr) (x := .slice Af F.length cf) k10 k11
   unfold endW at he
   refine bodyPost_ret (v := .agg #[.slice Af F.length cf, .slice Ar R.length cr]) (by simp [results, Tryz.results21, go_sem, he]) rfl ⟨_, _, F, R, rfl, pile_end (k := 0) (x := .slice Af F.length cf) HP3.out, ?_, below_end HB3.out HB.out⟩
   have hl : (F.map (·.1)).length = F.length := List.length_map _
   unfold addL
   rw [if_neg (by decide), if_neg (by decide), if_neg (by decide), if_neg (by decide), if_neg (by decide), if_pos (by decide)]
   unfold twoL
   rw [hl, if_pos (by have := HH0.out; omega)]
end Go.Proofs.YtdbgaccnejffpaaGreatDoor.Tree
