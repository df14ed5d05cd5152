/-
  The walk of the law's pile.add: what was matched (7), or what will be (8), over a regular expression. Written by wip/tools/genadd7.py. By an AI agent.
  The walk of the law's pile.add: what was matched (7), or what will be (8), over a regular expression. Written by wip/tools/genadd7.py. By an AI agent.
-/
import Derived.Test.YtdbgaccnejffpaaGreatDoorGSatDual42
namespace Go.Proofs.YtdbgaccnejffpaaGreatDoor.Tree
open Go.RowKit Go.Proofs.YtdbgaccnejffpaaGreatDoor.Ints
attribute [local go_sem ↓] Go.wp_at_zero Go.wp_at_succ
set_option maxHeartbeats 8000000 in
set_option maxRecDepth 100000 in
theorem add_16 (arg : Int) (Af Ar : Option Addr) (nf cf nr cr base : Nat) (F R : List SL) (w : World) (ha : 0 ≤ arg ∧ arg ≤ 100000) (hnf : F.length = nf) (hnr : R.length = nr) (hf : nf ≤ 100000) (hr : nr ≤ 100000) (hb : base ≤ w.heap.size) (_hsF : Small F) (hsR : Small R)
  (hp : PileX 0 0 w base (.slice Af nf cf) (.slice Ar nr cr) F R) :
  Calls Tryz.prog 21 #[.agg #[.slice Af nf cf, .slice Ar nr cr], .int .i64 16, .int .i64 arg] w (GotPile w base (addL 16 arg (F.map (·.1)) (R.map (·.1)))) := by
 obtain ⟨j0, hj0, hy0, hy1, hy2⟩ := info_parts infoLists
 have hfi : (nf : Int) ≤ 100000 := by omega
 have hri : (nr : Int) ≤ 100000 := by omega
 have HP0 := Lib.hid hp
 have HNF := Lib.hid hnf
 have HNR := Lib.hid hnr
 have HB := Lib.hid hb
 have HSF := Lib.hid hsR
 obtain ⟨ha1, ha2⟩ := ha
 have HRL := Lib.hid (show F.length + 1 ≤ 4194304 by omega)
 obtain ⟨_, _, eL, hLc, -, -, -⟩ := HP0.out.swap.1.slice
 have hLc' : nr ≤ cr := by injection eL with e1 e2 e3; omega
 clear hp hb _hsF hsR hf hr hnf hnr eL hLc
 have hl16 : ∀ (A B : Ls), addL 16 arg A B = (if B.length < 1 then (A, B) else (A ++ [overL (spanNd 16 arg) (B.getD (B.length - 1) []) []], B.take (B.length - 1))) := fun A B => by
  unfold addL
  rw [if_neg (by decide), if_neg (by decide), if_neg (by decide), if_neg (by decide), if_neg (by decide), if_neg (by decide), if_pos (by decide)]
 have HL16 := Lib.hid hl16
 clear hl16
 cases nr with
 | zero =>
  go_enter Tryz.func21, Tryz.ntmps21
  go_wp2
  refine bodyPost_ret (v := .agg #[.slice Af nf cf, .slice Ar 0 cr]) (by simp [results, Tryz.results21, go_sem]) rfl ⟨_, _, F, R, rfl, (add_pile2 HP0.out (add_two w _ _)).mono (fun _ _ _ => Or.inr (Nat.zero_le _)), ?_, (add_two w _ _).mono HB.out⟩
  rw [HL16.out, if_pos (by rw [List.length_map, HNR.out]; omega)]
 | succ p =>
  obtain ⟨l, K, cK, hFp, ⟨g, eA, hcl⟩, hN⟩ := last_list HP0.out.swap HNR.out
  subst eA
  obtain ⟨m, hm⟩ : ∃ m, l.length = m := ⟨_, rfl⟩
  rw [hm] at hcl
  have hls := (HSF.out _ (List.mem_of_getElem? hFp)).1
  simp only at hls
  have HOV := Lib.hid (fun W (hb : Below w.heap.size w W) => refOver (spanNd 16 arg) none 0 K none m 0 cK 0 l [] _ W hm rfl (by omega) (by omega) (nodeOk_bare W rfl (spanNd_small _ _ (by omega) ⟨ha1, ha2⟩)) (hN.below hb) (Nodes.nil _ _ _) movable_nil)
  have HFP := Lib.hid hFp
  have HM := Lib.hid hm
  have HCL := Lib.hid (fun W (hb : Below w.heap.size w W) => below_cell hb hcl)
  have hp1 : (p : Int) ≤ (cr : Int) := by omega
  have hp2 : (p : Int) < (p : Int) + 1 := by omega
  have hp0 : (0 : Int) ≤ (p : Int) := by omega
  clear hFp hN hm hls hcl
  go_enter Tryz.func21, Tryz.ntmps21
  go_wp2_with fail
  have hk0 := blk_alloc (o' := .cells #[.slice none 0 0, .slice none 0 0] 50) (new_at w (.cells #[.slice Af nf cf, .slice (some ⟨g, 0, none⟩) (p + 1) cr] 50))
  have hk1 := new_at2 w (.cells #[.slice Af nf cf, .slice (some ⟨g, 0, none⟩) (p + 1) cr] 50) (.cells #[.slice none 0 0, .slice none 0 0] 50)
  have hb1 := add_two w (.cells #[.slice Af nf cf, .slice (some ⟨g, 0, none⟩) (p + 1) cr] 50) (.cells #[.slice none 0 0, .slice none 0 0] 50)
  have hz1 : ((w.alloc (.cells #[.slice Af nf cf, .slice (some ⟨g, 0, none⟩) (p + 1) cr] 50)).alloc (.cells #[.slice none 0 0, .slice none 0 0] 50)).heap.size = w.heap.size + 2 := by simp
  generalize (w.alloc (.cells #[.slice Af nf cf, .slice (some ⟨g, 0, none⟩) (p + 1) cr] 50)).alloc (.cells #[.slice none 0 0, .slice none 0 0] 50) = W1 at hk0 hk1 hb1 hz1 ⊢
  have x0 := blk_cell hk0 0 _ rfl
  have x1 := blk_cell hk0 1 _ rfl
  have x2 := HCL.out W1 hb1
  have HK0 := Lib.hid hk0
  have HK1 := Lib.hid hk1
  have HB1 := Lib.hid hb1
  have HZ1 := Lib.hid hz1
  have HN0 := Lib.hid (own_not HP0.out.1.1 (Nat.le_refl w.heap.size))
  have HN1 := Lib.hid (own_not HP0.out.1.1 (Nat.le_succ w.heap.size))
  clear hk0 hk1 hb1 hz1
  go_region_law
   (first
    | (refine step_append_sls rfl (.tmp 96) (.tmp 109) 48 rfl base j0 _ Tryz.underlying48 hj0 hy0 hy1 hy2 rfl (.slice Af nf cf) F (by rfl) (Off (.slice (some ⟨g, 0, none⟩) (p + 1) cr) w.heap.size (w.heap.size + 2)) (HP2.out.1.below ((Below.refl _ _).alloc (Nat.le_refl _) _)) (some ⟨w2.heap.size, 0, none⟩) 1 1 [(overL (spanNd 16 arg) l [], A5, c5)] rfl (by rfl) (box_lists rfl (new_at _ _) HS2.out ⟨HX2.out.below ((Below.refl _ _).alloc (Nat.le_refl _) _), HC5.out⟩) HRL.out (le_alloc HBZ.out) ?_; intro v3 w3 hown3 hgr3 hat3; obtain ⟨A3, c3, e3, -, -, -, -⟩ := hown3.slice; subst e3; have k0 := blk_grown hgr3 (blk_alloc HQ0.out) HN0.out; have k1 := blk_grown hgr3 (blk_alloc HQ1.out) HN1.out; have k00 := blk_cell k0 0 _ rfl; have k01 := blk_cell k0 1 _ rfl; have f00 := blk_frozen k0 0; have f01 := blk_frozen k0 1; have k10 := blk_cell k1 0 _ rfl; have k11 := blk_cell k1 1 _ rfl; have f10 := blk_frozen k1 0; have f11 := blk_frozen k1 1; have HP3 := Lib.hid ((HP2.out.below ((Below.refl _ _).alloc (Nat.le_refl _) _)).grow hown3 hgr3 hat3 (le_alloc HZ2.out)); have HB3 := Lib.hid ((HB2.out.alloc HBZ.out _).grown hgr3 (le_alloc HBZ.out) (fun z hz => (HP0.out.1.1.lt z hz).1)); clear k0 k1 hown3 hgr3 hat3)
    | (go_simp; go_wp2_with (first
      | (go_at_call 7; refine (lawSpan arg _ ha1 ha2).mono ?_; rintro e w4 ⟨rfl, hb4⟩; have hb4' : Below W1.heap.size W1 w4 := undrewL hb4; have p0 := blk_below hb4' HK0.out; have p1 := blk_below hb4' HK1.out; have z0 := blk_cell p0 0 _ rfl; have z1 := blk_cell p0 1 _ rfl; have hbw4 := HB1.out.trans (hb4'.mono HB1.out.size); have z2 := HCL.out w4 hbw4; have HK04 := Lib.hid p0; have HK14 := Lib.hid p1; have HB4 := Lib.hid hbw4; have HZ4 := Lib.hid (show w.heap.size + 2 ≤ w4.heap.size by rw [← HZ1.out]; exact hb4'.size); clear hb4 hb4' p0 p1 hbw4)
      | (go_at_call 18; refine (HOV.out _ HB4.out).mono ?_; rintro e w2 ⟨A5, c5, rfl, hX, hc5, hm5, hb2⟩; have q0 := blk_below hb2 HK04.out; have q1 := blk_below hb2 HK14.out; have y1 := blk_cell q0 0 _ rfl; have y2 := fun o => blk_cell (blk_alloc (o' := o) q0) 0 _ rfl; have HQ0 := Lib.hid q0; have HQ1 := Lib.hid q1; have hbw := HB4.out.trans (hb2.mono HB4.out.size); have HP2 := Lib.hid (add_pile2 HP0.out hbw); have HB2 := Lib.hid (hbw.mono HB.out); have HBZ := Lib.hid (Nat.le_trans HB.out hbw.size); have HZ2 := Lib.hid (Nat.le_trans HZ4.out hb2.size); have HX2 := Lib.hid (hX.mono (S' := fun q => Off (.slice (some ⟨g, 0, none⟩) (p + 1) cr) w.heap.size (w.heap.size + 2) q ∧ some q ≠ (Value.slice Af nf cf).ownBlock) fun q _ hq => take_blocks HP0.out.swap (hq.elim Or.inl fun h => Or.inr (Nat.le_trans HZ4.out h))); have HS2 := Lib.hid (take_blocks HP0.out.swap (q := w2.heap.size) (Or.inr HZ2.out)); have HC5 := Lib.hid (And.intro hc5 hm5); clear hX hc5 hm5 hb2 q0 q1 hbw))))
  all_goals go_wp2
  all_goals
   have he := end_cells2 (k := 0) (j := 1) (x := .slice A3 (F.length + 1) c3) (y := .slice (some ⟨g, 0, none⟩) p cr) (fv := .slice A3 (F.length + 1) c3) (rv := .slice (some ⟨g, 0, none⟩) p cr) k10 k11
   unfold endW2 at he
   refine bodyPost_ret (v := .agg #[.slice A3 (F.length + 1) c3, .slice (some ⟨g, 0, none⟩) p cr]) (by simp [results, Tryz.results21, go_sem, he]) rfl ⟨_, _, F ++ [(overL (spanNd 16 arg) l [], A5, c5)], R.take p, rfl, ?_, ?_, below_end2 HB3.out HB.out⟩
   ·have := HP3.out
    rw [List.length_append] at this
    exact pile_end2 (this.cut (k := p) (by rw [HNR.out]; omega))
   ·rw [HL16.out, if_neg (by rw [List.length_map, HNR.out]; omega), List.length_map, HNR.out, Nat.add_sub_cancel, List.map_take, List.map_append, List.getD_eq_getElem?_getD, List.getElem?_map, HFP.out]
    rfl
end Go.Proofs.YtdbgaccnejffpaaGreatDoor.Tree

namespace Go.Proofs.YtdbgaccnejffpaaGreatDoor.Tree
open Go.RowKit Go.Proofs.YtdbgaccnejffpaaGreatDoor.Ints
attribute [local go_sem ↓] Go.wp_at_zero Go.wp_at_succ
set_option maxHeartbeats 8000000 in
set_option maxRecDepth 100000 in
theorem add_17 (arg : Int) (Af Ar : Option Addr) (nf cf nr cr base : Nat) (F R : List SL) (w : World) (ha : 0 ≤ arg ∧ arg ≤ 100000) (hnf : F.length = nf) (hnr : R.length = nr) (hf : nf ≤ 100000) (hr : nr ≤ 100000) (hb : base ≤ w.heap.size) (_hsF : Small F) (hsR : Small R)
  (hp : PileX 0 0 w base (.slice Af nf cf) (.slice Ar nr cr) F R) :
  Calls Tryz.prog 21 #[.agg #[.slice Af nf cf, .slice Ar nr cr], .int .i64 17, .int .i64 arg] w (GotPile w base (addL 17 arg (F.map (·.1)) (R.map (·.1)))) := by
 obtain ⟨j0, hj0, hy0, hy1, hy2⟩ := info_parts infoLists
 have hfi : (nf : Int) ≤ 100000 := by omega
 have hri : (nr : Int) ≤ 100000 := by omega
 have HP0 := Lib.hid hp
 have HNF := Lib.hid hnf
 have HNR := Lib.hid hnr
 have HB := Lib.hid hb
 have HSF := Lib.hid hsR
 obtain ⟨ha1, ha2⟩ := ha
 have HRL := Lib.hid (show F.length + 1 ≤ 4194304 by omega)
 obtain ⟨_, _, eL, hLc, -, -, -⟩ := HP0.out.swap.1.slice
 have hLc' : nr ≤ cr := by injection eL with e1 e2 e3; omega
 clear hp hb _hsF hsR hf hr hnf hnr eL hLc
 have hl17 : ∀ (A B : Ls), addL 17 arg A B = (if B.length < 1 then (A, B) else (A ++ [overL (spanNd 17 arg) (B.getD (B.length - 1) []) []], B.take (B.length - 1))) := fun A B => by
  unfold addL
  rw [if_neg (by decide), if_neg (by decide), if_neg (by decide), if_neg (by decide), if_neg (by decide), if_neg (by decide), if_pos (by decide)]
 have HL17 := Lib.hid hl17
 clear hl17
 cases nr with
 | zero =>
  go_enter Tryz.func21, Tryz.ntmps21
  go_wp2
  refine bodyPost_ret (v := .agg #[.slice Af nf cf, .slice Ar 0 cr]) (by simp [results, Tryz.results21, go_sem]) rfl ⟨_, _, F, R, rfl, (add_pile2 HP0.out (add_two w _ _)).mono (fun _ _ _ => Or.inr (Nat.zero_le _)), ?_, (add_two w _ _).mono HB.out⟩
  rw [HL17.out, if_pos (by rw [List.length_map, HNR.out]; omega)]
 | succ p =>
  obtain ⟨l, K, cK, hFp, ⟨g, eA, hcl⟩, hN⟩ := last_list HP0.out.swap HNR.out
  subst eA
  obtain ⟨m, hm⟩ : ∃ m, l.length = m := ⟨_, rfl⟩
  rw [hm] at hcl
  have hls := (HSF.out _ (List.mem_of_getElem? hFp)).1
  simp only at hls
  have HOV := Lib.hid (fun W (hb : Below w.heap.size w W) => refOver (spanNd 17 arg) none 0 K none m 0 cK 0 l [] _ W hm rfl (by omega) (by omega) (nodeOk_bare W rfl (spanNd_small _ _ (by omega) ⟨ha1, ha2⟩)) (hN.below hb) (Nodes.nil _ _ _) movable_nil)
  have HFP := Lib.hid hFp
  have HM := Lib.hid hm
  have HCL := Lib.hid (fun W (hb : Below w.heap.size w W) => below_cell hb hcl)
  have hp1 : (p : Int) ≤ (cr : Int) := by omega
  have hp2 : (p : Int) < (p : Int) + 1 := by omega
  have hp0 : (0 : Int) ≤ (p : Int) := by omega
  clear hFp hN hm hls hcl
  go_enter Tryz.func21, Tryz.ntmps21
  go_wp2_with fail
  have hk0 := blk_alloc (o' := .cells #[.slice none 0 0, .slice none 0 0] 50) (new_at w (.cells #[.slice Af nf cf, .slice (some ⟨g, 0, none⟩) (p + 1) cr] 50))
  have hk1 := new_at2 w (.cells #[.slice Af nf cf, .slice (some ⟨g, 0, none⟩) (p + 1) cr] 50) (.cells #[.slice none 0 0, .slice none 0 0] 50)
  have hb1 := add_two w (.cells #[.slice Af nf cf, .slice (some ⟨g, 0, none⟩) (p + 1) cr] 50) (.cells #[.slice none 0 0, .slice none 0 0] 50)
  have hz1 : ((w.alloc (.cells #[.slice Af nf cf, .slice (some ⟨g, 0, none⟩) (p + 1) cr] 50)).alloc (.cells #[.slice none 0 0, .slice none 0 0] 50)).heap.size = w.heap.size + 2 := by simp
  generalize (w.alloc (.cells #[.slice Af nf cf, .slice (some ⟨g, 0, none⟩) (p + 1) cr] 50)).alloc (.cells #[.slice none 0 0, .slice none 0 0] 50) = W1 at hk0 hk1 hb1 hz1 ⊢
  have x0 := blk_cell hk0 0 _ rfl
  have x1 := blk_cell hk0 1 _ rfl
  have x2 := HCL.out W1 hb1
  have HK0 := Lib.hid hk0
  have HK1 := Lib.hid hk1
  have HB1 := Lib.hid hb1
  have HZ1 := Lib.hid hz1
  have HN0 := Lib.hid (own_not HP0.out.1.1 (Nat.le_refl w.heap.size))
  have HN1 := Lib.hid (own_not HP0.out.1.1 (Nat.le_succ w.heap.size))
  clear hk0 hk1 hb1 hz1
  go_region_law
   (first
    | (refine step_append_sls rfl (.tmp 96) (.tmp 109) 48 rfl base j0 _ Tryz.underlying48 hj0 hy0 hy1 hy2 rfl (.slice Af nf cf) F (by rfl) (Off (.slice (some ⟨g, 0, none⟩) (p + 1) cr) w.heap.size (w.heap.size + 2)) (HP2.out.1.below ((Below.refl _ _).alloc (Nat.le_refl _) _)) (some ⟨w2.heap.size, 0, none⟩) 1 1 [(overL (spanNd 17 arg) l [], A5, c5)] rfl (by rfl) (box_lists rfl (new_at _ _) HS2.out ⟨HX2.out.below ((Below.refl _ _).alloc (Nat.le_refl _) _), HC5.out⟩) HRL.out (le_alloc HBZ.out) ?_; intro v3 w3 hown3 hgr3 hat3; obtain ⟨A3, c3, e3, -, -, -, -⟩ := hown3.slice; subst e3; have k0 := blk_grown hgr3 (blk_alloc HQ0.out) HN0.out; have k1 := blk_grown hgr3 (blk_alloc HQ1.out) HN1.out; have k00 := blk_cell k0 0 _ rfl; have k01 := blk_cell k0 1 _ rfl; have f00 := blk_frozen k0 0; have f01 := blk_frozen k0 1; have k10 := blk_cell k1 0 _ rfl; have k11 := blk_cell k1 1 _ rfl; have f10 := blk_frozen k1 0; have f11 := blk_frozen k1 1; have HP3 := Lib.hid ((HP2.out.below ((Below.refl _ _).alloc (Nat.le_refl _) _)).grow hown3 hgr3 hat3 (le_alloc HZ2.out)); have HB3 := Lib.hid ((HB2.out.alloc HBZ.out _).grown hgr3 (le_alloc HBZ.out) (fun z hz => (HP0.out.1.1.lt z hz).1)); clear k0 k1 hown3 hgr3 hat3)
    | (go_simp; go_wp2_with (first
      | (go_at_call 7; refine (lawSpan arg _ ha1 ha2).mono ?_; rintro e w4 ⟨rfl, hb4⟩; have hb4' : Below W1.heap.size W1 w4 := undrewL hb4; have p0 := blk_below hb4' HK0.out; have p1 := blk_below hb4' HK1.out; have z0 := blk_cell p0 0 _ rfl; have z1 := blk_cell p0 1 _ rfl; have hbw4 := HB1.out.trans (hb4'.mono HB1.out.size); have z2 := HCL.out w4 hbw4; have HK04 := Lib.hid p0; have HK14 := Lib.hid p1; have HB4 := Lib.hid hbw4; have HZ4 := Lib.hid (show w.heap.size + 2 ≤ w4.heap.size by rw [← HZ1.out]; exact hb4'.size); clear hb4 hb4' p0 p1 hbw4)
      | (go_at_call 18; refine (HOV.out _ HB4.out).mono ?_; rintro e w2 ⟨A5, c5, rfl, hX, hc5, hm5, hb2⟩; have q0 := blk_below hb2 HK04.out; have q1 := blk_below hb2 HK14.out; have y1 := blk_cell q0 0 _ rfl; have y2 := fun o => blk_cell (blk_alloc (o' := o) q0) 0 _ rfl; have HQ0 := Lib.hid q0; have HQ1 := Lib.hid q1; have hbw := HB4.out.trans (hb2.mono HB4.out.size); have HP2 := Lib.hid (add_pile2 HP0.out hbw); have HB2 := Lib.hid (hbw.mono HB.out); have HBZ := Lib.hid (Nat.le_trans HB.out hbw.size); have HZ2 := Lib.hid (Nat.le_trans HZ4.out hb2.size); have HX2 := Lib.hid (hX.mono (S' := fun q => Off (.slice (some ⟨g, 0, none⟩) (p + 1) cr) w.heap.size (w.heap.size + 2) q ∧ some q ≠ (Value.slice Af nf cf).ownBlock) fun q _ hq => take_blocks HP0.out.swap (hq.elim Or.inl fun h => Or.inr (Nat.le_trans HZ4.out h))); have HS2 := Lib.hid (take_blocks HP0.out.swap (q := w2.heap.size) (Or.inr HZ2.out)); have HC5 := Lib.hid (And.intro hc5 hm5); clear hX hc5 hm5 hb2 q0 q1 hbw))))
  all_goals go_wp2
  all_goals
   have he := end_cells2 (k := 0) (j := 1) (x := .slice A3 (F.length + 1) c3) (y := .slice (some ⟨g, 0, none⟩) p cr) (fv := .slice A3 (F.length + 1) c3) (rv := .slice (some ⟨g, 0, none⟩) p cr) k10 k11
   unfold endW2 at he
   refine bodyPost_ret (v := .agg #[.slice A3 (F.length + 1) c3, .slice (some ⟨g, 0, none⟩) p cr]) (by simp [results, Tryz.results21, go_sem, he]) rfl ⟨_, _, F ++ [(overL (spanNd 17 arg) l [], A5, c5)], R.take p, rfl, ?_, ?_, below_end2 HB3.out HB.out⟩
   ·have := HP3.out
    rw [List.length_append] at this
    exact pile_end2 (this.cut (k := p) (by rw [HNR.out]; omega))
   ·rw [HL17.out, if_neg (by rw [List.length_map, HNR.out]; omega), List.length_map, HNR.out, Nat.add_sub_cancel, List.map_take, List.map_append, List.getD_eq_getElem?_getD, List.getElem?_map, HFP.out]
    rfl
end Go.Proofs.YtdbgaccnejffpaaGreatDoor.Tree
