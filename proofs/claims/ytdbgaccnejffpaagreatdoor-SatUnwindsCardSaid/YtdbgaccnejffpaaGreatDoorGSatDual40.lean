/-
  The walks of the law's pile.add, one for each operation. By an AI agent.
-/
import Derived.Test.YtdbgaccnejffpaaGreatDoorGSatDual13
namespace Go.Proofs.YtdbgaccnejffpaaGreatDoor.Tree
open Go.RowKit Go.Proofs.YtdbgaccnejffpaaGreatDoor.Ints
theorem add_two (w : World) (o1 o2 : Obj) : Below w.heap.size w ((w.alloc o1).alloc o2) := ((Below.refl _ _).alloc (Nat.le_refl _) _).alloc (le_alloc (Nat.le_refl _)) _
theorem add_pile2 {base : Nat} {fv rv : Value} {F R : List SL} {w W : World} (hp : PileX 0 0 w base fv rv F R) (hb : Below w.heap.size w W) : PileX w.heap.size (w.heap.size + 2) W base fv rv F R :=
 (hp.mono (B' := w.heap.size) (D' := w.heap.size + 2) fun _ hq _ => Or.inl hq).below hb
theorem prop_small (n : Int) : small64 (propNd n).kind ∧ small64 (propNd n).lo ∧ small64 (propNd n).hi ∧ (propNd n).name.size ≤ maxLen :=
 ⟨by unfold propNd small64; simp, by unfold propNd small64; simp, by unfold propNd small64; simp, show 1 ≤ maxLen by decide⟩
theorem spanNd_small (k n : Int) (h : 0 ≤ k ∧ k ≤ 100) (hn : 0 ≤ n ∧ n ≤ 100000) : small64 (spanNd k n).kind ∧ small64 (spanNd k n).lo ∧ small64 (spanNd k n).hi ∧ (spanNd k n).name.size ≤ maxLen := by
 have := span_small n hn
 exact ⟨by unfold spanNd small64; simp only; omega, this.1, this.2, show (0 : Nat) ≤ maxLen from Nat.zero_le _⟩
theorem lawOne0n (nd0 : Nd) (A : Option Addr) (n c : Nat) (w : World) (hn : n < 1) :
  Calls Tryz.prog 26 #[.slice A n c, .agg #[.int .i64 nd0.kind, .string nd0.name, .int .i64 nd0.lo, .int .i64 nd0.hi, .slice none 0 0]] w fun e w' => e = .returned (.slice A n c) ∧ Below w.heap.size w w' := by
 obtain rfl : n = 0 := by omega
 exact lawOne0 nd0 A c w
theorem lawTwo0n (nd0 : Nd) (A : Option Addr) (n c : Nat) (w : World) (hn : n < 2) :
  Calls Tryz.prog 27 #[.slice A n c, .agg #[.int .i64 nd0.kind, .string nd0.name, .int .i64 nd0.lo, .int .i64 nd0.hi, .slice none 0 0]] w fun e w' => e = .returned (.slice A n c) ∧ Below w.heap.size w w' := lawTwo0 nd0 A n c w hn
def Small (l : List SL) : Prop := ∀ s ∈ l, s.1.length ≤ 1048576 ∧ Movable s.1
set_option maxHeartbeats 4000000 in
set_option maxRecDepth 100000 in
theorem add_0 (arg : Int) (Af Ar : Option Addr) (nf cf nr cr base : Nat) (F R : List SL) (w : World) (ha : 0 ≤ arg ∧ arg ≤ 100000) (hnf : F.length = nf) (hnr : R.length = nr) (hf : nf ≤ 100000) (hr : nr ≤ 100000) (hb : base ≤ w.heap.size) (hsF : Small F) (hsR : Small R)
  (hp : PileX 0 0 w base (.slice Af nf cf) (.slice Ar nr cr) F R) :
  Calls Tryz.prog 21 #[.agg #[.slice Af nf cf, .slice Ar nr cr], .int .i64 0, .int .i64 arg] w (GotPile w base (addL 0 arg (F.map (·.1)) (R.map (·.1)))) := by
 obtain ⟨j0, hj0, hy0, hy1, hy2⟩ := info_parts infoLists
 obtain ⟨ha1, ha2⟩ := ha
 have hfi : (nf : Int) ≤ 100000 := by omega
 have hri : (nr : Int) ≤ 100000 := by omega
 subst hnf
 subst hnr
 have HP0 := Lib.hid hp
 have HNF := Lib.hid (show F.length = F.length from rfl)
 have HNR := Lib.hid (show R.length = R.length from rfl)
 have HB := Lib.hid hb
 have HSF := Lib.hid hsF
 have HSR := Lib.hid hsR
 have HSZ := Lib.hid (add_size w)
 have HPX := Lib.hid (fun o1 o2 o3 => add_pile HP0.out o1 o2 o3)
 have HBX := Lib.hid (fun o1 o2 => add_box w o1 o2)
 have HF0 := Lib.hid hf
 have HR0 := Lib.hid hr
 clear hp hb hsF hsR hf hr
 have HLF := Lib.hid (show F.length ≤ 4194304 by have := HF0.out; have := HR0.out; omega)
 have HAP := Lib.hid (show Off (.slice Ar R.length cr) w.heap.size (w.heap.size + 2) (w.heap.size + 2) ∧ some (w.heap.size + 2) ≠ (Value.slice Af F.length cf).ownBlock from ⟨⟨fun e => by have := (HP0.out.2.1.1.lt _ e.symm).2; omega, Or.inr (Nat.le_refl _)⟩, fun e => by have := (HP0.out.1.1.lt _ e.symm).2; omega⟩)
 have HN0 := Lib.hid (show some w.heap.size ≠ (Value.slice Af F.length cf).ownBlock from fun e => by have := (HP0.out.1.1.lt _ e.symm).2; omega)
 have HN1 := Lib.hid (show some (w.heap.size + 1) ≠ (Value.slice Af F.length cf).ownBlock from fun e => by have := (HP0.out.1.1.lt _ e.symm).2; omega)
 go_enter Tryz.func21, Tryz.ntmps21
 go_wp2_with (at_builtin; refine wpList_append_sl rfl (.tmp 18) (.tmp 24) 48 rfl base j0 _ Tryz.underlying48 hj0 hy0 hy1 hy2 rfl (.slice Af F.length cf) F ?c1 (Off (.slice Ar R.length cr) w.heap.size (w.heap.size + 2)) ?c2 ([kindNd (1 + arg % 2)], some ⟨w.heap.size + 2, 0, none⟩, 1) ?c3 _ _ ?c4 (w.heap.size + 3) ?c5 ?c6 HLF.out ?c7 ?_; (case c1 => rfl); (case c2 => exact (HPX.out _ _ _).1); (case c4 => rfl); (case c5 => exact HSZ.out _ _ _); (case c6 => rfl); (case c7 => rw [HSZ.out]; have := HB.out; omega); (case c3 => exact one_list (nd := kindNd (1 + arg % 2)) (HBX.out _ _ _) rfl (kind_small _ (by omega)) (HAP.out)); intro v3 w3 hown3 hgr3 hat3; obtain ⟨A3, c3, e3, -, -, -, -⟩ := hown3.slice; subst e3; have k0 := blk_grown hgr3 (add_blk0 w _ _ _ _) HN0.out; have k1 := blk_grown hgr3 (add_blk1 w _ _ _ _) HN1.out; have k00 := blk_cell k0 0 _ rfl; have k01 := blk_cell k0 1 _ rfl; have f00 := blk_frozen k0 0; have f01 := blk_frozen k0 1; have k10 := blk_cell k1 0 _ rfl; have k11 := blk_cell k1 1 _ rfl; have f10 := blk_frozen k1 0; have f11 := blk_frozen k1 1; have HP3 := Lib.hid ((((add_pile HP0.out _ _ _).below ((Below.refl _ _).alloc (Nat.le_refl _) _)).grow hown3 hgr3 hat3 (by simp))); have HB3 := Lib.hid (((((((Below.refl base w).alloc HB.out _).alloc (le_alloc HB.out) _).alloc (le_alloc (le_alloc HB.out)) _).alloc (le_alloc (le_alloc (le_alloc HB.out))) _).grown hgr3 (le_alloc (le_alloc (le_alloc (le_alloc HB.out)))) (fun z hz => (HP0.out.1.1.lt z hz).1))); clear k0 k1 hown3 hgr3 hat3)
 have he := end_cells (k := 0) (fv := .slice A3 (F.length + 1) c3) (rv := .slice Ar R.length cr) (x := .slice A3 (F.length + 1) c3) k10 k11
 unfold endW at he
 refine bodyPost_ret (v := .agg #[.slice A3 (F.length + 1) c3, .slice Ar R.length cr]) (by simp [results, Tryz.results21, go_sem, he]) rfl ⟨_, _, F ++ [([kindNd (1 + arg % 2)], some ⟨w.heap.size + 2, 0, none⟩, 1)], R, rfl, ?_, ?_, below_end HB3.out HB.out⟩
 ·have := HP3.out
  rw [List.length_append] at this
  exact pile_end (k := 0) (x := .slice A3 (F.length + 1) c3) this
 ·unfold addL
  rw [if_pos (by decide)]
  rw [List.map_append]
  rfl
set_option maxHeartbeats 4000000 in
set_option maxRecDepth 100000 in
theorem add_18 (arg : Int) (Af Ar : Option Addr) (nf cf nr cr base : Nat) (F R : List SL) (w : World) (ha : 0 ≤ arg ∧ arg ≤ 100000) (hnf : F.length = nf) (hnr : R.length = nr) (hf : nf ≤ 100000) (hr : nr ≤ 100000) (hb : base ≤ w.heap.size) (hsF : Small F) (hsR : Small R)
  (hp : PileX 0 0 w base (.slice Af nf cf) (.slice Ar nr cr) F R) :
  Calls Tryz.prog 21 #[.agg #[.slice Af nf cf, .slice Ar nr cr], .int .i64 18, .int .i64 arg] w (GotPile w base (addL 18 arg (F.map (·.1)) (R.map (·.1)))) := by
 obtain ⟨j0, hj0, hy0, hy1, hy2⟩ := info_parts infoLists
 obtain ⟨ha1, ha2⟩ := ha
 have hfi : (nf : Int) ≤ 100000 := by omega
 have hri : (nr : Int) ≤ 100000 := by omega
 subst hnf
 subst hnr
 have HP0 := Lib.hid hp
 have HNF := Lib.hid (show F.length = F.length from rfl)
 have HNR := Lib.hid (show R.length = R.length from rfl)
 have HB := Lib.hid hb
 have HSF := Lib.hid hsF
 have HSR := Lib.hid hsR
 have HSZ := Lib.hid (add_size w)
 have HPX := Lib.hid (fun o1 o2 o3 => add_pile HP0.out o1 o2 o3)
 have HBX := Lib.hid (fun o1 o2 => add_box w o1 o2)
 have HF0 := Lib.hid hf
 have HR0 := Lib.hid hr
 clear hp hb hsF hsR hf hr
 have HLF := Lib.hid (show R.length ≤ 4194304 by have := HF0.out; have := HR0.out; omega)
 have HAP := Lib.hid (show Off (.slice Af F.length cf) w.heap.size (w.heap.size + 2) (w.heap.size + 2) ∧ some (w.heap.size + 2) ≠ (Value.slice Ar R.length cr).ownBlock from ⟨⟨fun e => by have := (HP0.out.swap.2.1.1.lt _ e.symm).2; omega, Or.inr (Nat.le_refl _)⟩, fun e => by have := (HP0.out.swap.1.1.lt _ e.symm).2; omega⟩)
 have HN0 := Lib.hid (show some w.heap.size ≠ (Value.slice Ar R.length cr).ownBlock from fun e => by have := (HP0.out.swap.1.1.lt _ e.symm).2; omega)
 have HN1 := Lib.hid (show some (w.heap.size + 1) ≠ (Value.slice Ar R.length cr).ownBlock from fun e => by have := (HP0.out.swap.1.1.lt _ e.symm).2; omega)
 go_enter Tryz.func21, Tryz.ntmps21
 go_wp2_with (at_builtin; refine wpList_append_sl rfl (.tmp 121) (.tmp 124) 48 rfl base j0 _ Tryz.underlying48 hj0 hy0 hy1 hy2 rfl (.slice Ar R.length cr) R ?c1 (Off (.slice Af F.length cf) w.heap.size (w.heap.size + 2)) ?c2 ([kindNd 18], some ⟨w.heap.size + 2, 0, none⟩, 1) ?c3 _ _ ?c4 (w.heap.size + 3) ?c5 ?c6 HLF.out ?c7 ?_; (case c1 => rfl); (case c2 => exact (HPX.out _ _ _).swap.1); (case c4 => rfl); (case c5 => exact HSZ.out _ _ _); (case c6 => rfl); (case c7 => rw [HSZ.out]; have := HB.out; omega); (case c3 => exact one_list (nd := kindNd 18) (HBX.out _ _ _) rfl (kind_small _ (by omega)) (HAP.out)); intro v3 w3 hown3 hgr3 hat3; obtain ⟨A3, c3, e3, -, -, -, -⟩ := hown3.slice; subst e3; have k0 := blk_grown hgr3 (add_blk0 w _ _ _ _) HN0.out; have k1 := blk_grown hgr3 (add_blk1 w _ _ _ _) HN1.out; have k00 := blk_cell k0 0 _ rfl; have k01 := blk_cell k0 1 _ rfl; have f00 := blk_frozen k0 0; have f01 := blk_frozen k0 1; have k10 := blk_cell k1 0 _ rfl; have k11 := blk_cell k1 1 _ rfl; have f10 := blk_frozen k1 0; have f11 := blk_frozen k1 1; have HP3 := Lib.hid ((((add_pile HP0.out _ _ _).below ((Below.refl _ _).alloc (Nat.le_refl _) _)).swap.grow hown3 hgr3 hat3 (by simp))); have HB3 := Lib.hid (((((((Below.refl base w).alloc HB.out _).alloc (le_alloc HB.out) _).alloc (le_alloc (le_alloc HB.out)) _).alloc (le_alloc (le_alloc (le_alloc HB.out))) _).grown hgr3 (le_alloc (le_alloc (le_alloc (le_alloc HB.out)))) (fun z hz => (HP0.out.swap.1.1.lt z hz).1))); clear k0 k1 hown3 hgr3 hat3)
 have he := end_cells (k := 1) (fv := .slice Af F.length cf) (rv := .slice A3 (R.length + 1) c3) (x := .slice A3 (R.length + 1) c3) k10 k11
 unfold endW at he
 refine bodyPost_ret (v := .agg #[.slice Af F.length cf, .slice A3 (R.length + 1) c3]) (by simp [results, Tryz.results21, go_sem, he]) rfl ⟨_, _, F, R ++ [([kindNd 18], some ⟨w.heap.size + 2, 0, none⟩, 1)], rfl, ?_, ?_, below_end HB3.out HB.out⟩
 ·have := HP3.out
  rw [List.length_append] at this
  exact pile_end (k := 1) (x := .slice A3 (R.length + 1) c3) this.swap
 ·unfold addL
  rw [if_neg (by decide), if_neg (by decide), if_neg (by decide), if_neg (by decide), if_neg (by decide), if_neg (by decide), if_neg (by decide), if_pos (by decide)]
  rw [List.map_append]
  rfl
set_option maxHeartbeats 4000000 in
set_option maxRecDepth 100000 in
theorem add_19 (arg : Int) (Af Ar : Option Addr) (nf cf nr cr base : Nat) (F R : List SL) (w : World) (ha : 0 ≤ arg ∧ arg ≤ 100000) (hnf : F.length = nf) (hnr : R.length = nr) (hf : nf ≤ 100000) (hr : nr ≤ 100000) (hb : base ≤ w.heap.size) (hsF : Small F) (hsR : Small R)
  (hp : PileX 0 0 w base (.slice Af nf cf) (.slice Ar nr cr) F R) :
  Calls Tryz.prog 21 #[.agg #[.slice Af nf cf, .slice Ar nr cr], .int .i64 19, .int .i64 arg] w (GotPile w base (addL 19 arg (F.map (·.1)) (R.map (·.1)))) := by
 obtain ⟨j0, hj0, hy0, hy1, hy2⟩ := info_parts infoLists
 obtain ⟨ha1, ha2⟩ := ha
 have hfi : (nf : Int) ≤ 100000 := by omega
 have hri : (nr : Int) ≤ 100000 := by omega
 subst hnf
 subst hnr
 have HP0 := Lib.hid hp
 have HNF := Lib.hid (show F.length = F.length from rfl)
 have HNR := Lib.hid (show R.length = R.length from rfl)
 have HB := Lib.hid hb
 have HSF := Lib.hid hsF
 have HSR := Lib.hid hsR
 have HSZ := Lib.hid (add_size w)
 have HPX := Lib.hid (fun o1 o2 o3 => add_pile HP0.out o1 o2 o3)
 have HBX := Lib.hid (fun o1 o2 => add_box w o1 o2)
 have HF0 := Lib.hid hf
 have HR0 := Lib.hid hr
 clear hp hb hsF hsR hf hr
 have HLF := Lib.hid (show R.length ≤ 4194304 by have := HF0.out; have := HR0.out; omega)
 have HAP := Lib.hid (show Off (.slice Af F.length cf) w.heap.size (w.heap.size + 2) (w.heap.size + 2) ∧ some (w.heap.size + 2) ≠ (Value.slice Ar R.length cr).ownBlock from ⟨⟨fun e => by have := (HP0.out.swap.2.1.1.lt _ e.symm).2; omega, Or.inr (Nat.le_refl _)⟩, fun e => by have := (HP0.out.swap.1.1.lt _ e.symm).2; omega⟩)
 have HN0 := Lib.hid (show some w.heap.size ≠ (Value.slice Ar R.length cr).ownBlock from fun e => by have := (HP0.out.swap.1.1.lt _ e.symm).2; omega)
 have HN1 := Lib.hid (show some (w.heap.size + 1) ≠ (Value.slice Ar R.length cr).ownBlock from fun e => by have := (HP0.out.swap.1.1.lt _ e.symm).2; omega)
 go_enter Tryz.func21, Tryz.ntmps21
 go_wp2_with (at_builtin; refine wpList_append_sl rfl (.tmp 121) (.tmp 124) 48 rfl base j0 _ Tryz.underlying48 hj0 hy0 hy1 hy2 rfl (.slice Ar R.length cr) R ?c1 (Off (.slice Af F.length cf) w.heap.size (w.heap.size + 2)) ?c2 ([kindNd 18], some ⟨w.heap.size + 2, 0, none⟩, 1) ?c3 _ _ ?c4 (w.heap.size + 3) ?c5 ?c6 HLF.out ?c7 ?_; (case c1 => rfl); (case c2 => exact (HPX.out _ _ _).swap.1); (case c4 => rfl); (case c5 => exact HSZ.out _ _ _); (case c6 => rfl); (case c7 => rw [HSZ.out]; have := HB.out; omega); (case c3 => exact one_list (nd := kindNd 18) (HBX.out _ _ _) rfl (kind_small _ (by omega)) (HAP.out)); intro v3 w3 hown3 hgr3 hat3; obtain ⟨A3, c3, e3, -, -, -, -⟩ := hown3.slice; subst e3; have k0 := blk_grown hgr3 (add_blk0 w _ _ _ _) HN0.out; have k1 := blk_grown hgr3 (add_blk1 w _ _ _ _) HN1.out; have k00 := blk_cell k0 0 _ rfl; have k01 := blk_cell k0 1 _ rfl; have f00 := blk_frozen k0 0; have f01 := blk_frozen k0 1; have k10 := blk_cell k1 0 _ rfl; have k11 := blk_cell k1 1 _ rfl; have f10 := blk_frozen k1 0; have f11 := blk_frozen k1 1; have HP3 := Lib.hid ((((add_pile HP0.out _ _ _).below ((Below.refl _ _).alloc (Nat.le_refl _) _)).swap.grow hown3 hgr3 hat3 (by simp))); have HB3 := Lib.hid (((((((Below.refl base w).alloc HB.out _).alloc (le_alloc HB.out) _).alloc (le_alloc (le_alloc HB.out)) _).alloc (le_alloc (le_alloc (le_alloc HB.out))) _).grown hgr3 (le_alloc (le_alloc (le_alloc (le_alloc HB.out)))) (fun z hz => (HP0.out.swap.1.1.lt z hz).1))); clear k0 k1 hown3 hgr3 hat3)
 have he := end_cells (k := 1) (fv := .slice Af F.length cf) (rv := .slice A3 (R.length + 1) c3) (x := .slice A3 (R.length + 1) c3) k10 k11
 unfold endW at he
 refine bodyPost_ret (v := .agg #[.slice Af F.length cf, .slice A3 (R.length + 1) c3]) (by simp [results, Tryz.results21, go_sem, he]) rfl ⟨_, _, F, R ++ [([kindNd 18], some ⟨w.heap.size + 2, 0, none⟩, 1)], rfl, ?_, ?_, below_end HB3.out HB.out⟩
 ·have := HP3.out
  rw [List.length_append] at this
  exact pile_end (k := 1) (x := .slice A3 (R.length + 1) c3) this.swap
 ·unfold addL
  rw [if_neg (by decide), if_neg (by decide), if_neg (by decide), if_neg (by decide), if_neg (by decide), if_neg (by decide), if_neg (by decide), if_pos (by decide)]
  rw [List.map_append]
  rfl
set_option maxHeartbeats 4000000 in
set_option maxRecDepth 100000 in
theorem add_4 (arg : Int) (Af Ar : Option Addr) (nf cf nr cr base : Nat) (F R : List SL) (w : World) (ha : 0 ≤ arg ∧ arg ≤ 100000) (hnf : F.length = nf) (hnr : R.length = nr) (hf : nf ≤ 100000) (hr : nr ≤ 100000) (hb : base ≤ w.heap.size) (hsF : Small F) (hsR : Small R)
  (hp : PileX 0 0 w base (.slice Af nf cf) (.slice Ar nr cr) F R) :
  Calls Tryz.prog 21 #[.agg #[.slice Af nf cf, .slice Ar nr cr], .int .i64 4, .int .i64 arg] w (GotPile w base (addL 4 arg (F.map (·.1)) (R.map (·.1)))) := by
 obtain ⟨j0, hj0, hy0, hy1, hy2⟩ := info_parts infoLists
 obtain ⟨ha1, ha2⟩ := ha
 have hfi : (nf : Int) ≤ 100000 := by omega
 have hri : (nr : Int) ≤ 100000 := by omega
 subst hnf
 subst hnr
 have HP0 := Lib.hid hp
 have HNF := Lib.hid (show F.length = F.length from rfl)
 have HNR := Lib.hid (show R.length = R.length from rfl)
 have HB := Lib.hid hb
 have HSF := Lib.hid hsF
 have HSR := Lib.hid hsR
 have HSZ := Lib.hid (add_size w)
 have HPX := Lib.hid (fun o1 o2 o3 => add_pile HP0.out o1 o2 o3)
 have HBX := Lib.hid (fun o1 o2 => add_box w o1 o2)
 have HF0 := Lib.hid hf
 have HR0 := Lib.hid hr
 clear hp hb hsF hsR hf hr
 obtain ⟨_, _, eL, hLc, -, -, -⟩ := HP0.out.1.slice
 have hLc' : F.length ≤ cf := by injection eL with e1 e2 e3; omega
 clear eL hLc
 by_cases h0 : 0 < F.length
 ·have HONE := Lib.hid (fun W (hb : Below w.heap.size w W) => lawOne (kindNd 4) rfl Af F.length cf F (Off (.slice Ar R.length cr) w.heap.size (w.heap.size + 2)) W rfl h0 (by have := HF0.out; have := HR0.out; omega) hLc' (fun s hs => (HSF.out s hs).1) (kind_small _ (by omega)) (add_pile2 HP0.out hb).lists)
  have HH0 := Lib.hid h0
  clear hLc' h0
  go_enter Tryz.func21, Tryz.ntmps21
  go_wp2_with (first
   | (go_at_call 26; refine (HONE.out _ (add_two w _ _)).mono ?_; rintro e w3 ⟨v3, τ, rfl, hown3, hτ, hb3⟩; obtain ⟨A3, c3, e3, -, -, -, -⟩ := hown3.slice; subst e3; have k0 := blk_below hb3 (blk_alloc (new_at w _)); have k1 := blk_below hb3 (new_at2 w _ _); have k00 := blk_cell k0 0 _ rfl; have k01 := blk_cell k0 1 _ rfl; have f00 := blk_frozen k0 0; have f01 := blk_frozen k0 1; have k10 := blk_cell k1 0 _ rfl; have k11 := blk_cell k1 1 _ rfl; have f10 := blk_frozen k1 0; have f11 := blk_frozen k1 1; have HP3 := Lib.hid ((add_pile2 HP0.out (add_two w _ _)).fresh hb3 hown3 (by simp) (by simp; have := HB.out; omega)); have HB3 := Lib.hid (((add_two w _ _).mono HB.out).trans (hb3.mono (by simp; have := HB.out; omega))); have HT := Lib.hid hτ; clear k0 k1 hown3 hb3 hτ))
  have he := end_cells (k := 0) (fv := .slice A3 τ.length c3) (rv := .slice Ar R.length cr) (x := .slice A3 τ.length c3) k10 k11
  unfold endW at he
  refine bodyPost_ret (v := .agg #[.slice A3 τ.length c3, .slice Ar R.length cr]) (by simp [results, Tryz.results21, go_sem, he]) rfl ⟨_, _, τ, R, rfl, pile_end (k := 0) (x := .slice A3 τ.length c3) HP3.out, ?_, below_end HB3.out HB.out⟩
  have hl : (F.map (·.1)).length = F.length := List.length_map _
  unfold addL
  rw [if_neg (by decide), if_neg (by decide), if_pos (by decide)]
  unfold oneL
  rw [hl, if_neg (by have := HH0.out; omega), HT.out]
 ·have HZ := Lib.hid (fun W => lawOne0n (kindNd 4) Af F.length cf W (by omega))
  have HH0 := Lib.hid h0
  clear hLc' h0
  go_enter Tryz.func21, Tryz.ntmps21
  go_wp2_with (first
   | (go_at_call 26; refine (HZ.out _).mono ?_; rintro e w3 ⟨rfl, hb3⟩; have k0 := blk_below hb3 (blk_alloc (new_at w _)); have k1 := blk_below hb3 (new_at2 w _ _); have k00 := blk_cell k0 0 _ rfl; have k01 := blk_cell k0 1 _ rfl; have f00 := blk_frozen k0 0; have f01 := blk_frozen k0 1; have k10 := blk_cell k1 0 _ rfl; have k11 := blk_cell k1 1 _ rfl; have f10 := blk_frozen k1 0; have f11 := blk_frozen k1 1; have HP3 := Lib.hid ((add_pile2 HP0.out (add_two w _ _)).below hb3); have HB3 := Lib.hid (((add_two w _ _).mono HB.out).trans (hb3.mono (by simp; have := HB.out; omega))); clear k0 k1 hb3))
  have he := end_cells (k := 0) (fv := .slice Af F.length cf) (rv := .slice Ar R.length cr) (x := .slice Af F.length cf) k10 k11
  unfold endW at he
  refine bodyPost_ret (v := .agg #[.slice Af F.length cf, .slice Ar R.length cr]) (by simp [results, Tryz.results21, go_sem, he]) rfl ⟨_, _, F, R, rfl, pile_end (k := 0) (x := .slice Af F.length cf) HP3.out, ?_, below_end HB3.out HB.out⟩
  have hl : (F.map (·.1)).length = F.length := List.length_map _
  unfold addL
  rw [if_neg (by decide), if_neg (by decide), if_pos (by decide)]
  unfold oneL
  rw [hl, if_pos (by have := HH0.out; omega)]
set_option maxHeartbeats 4000000 in
set_option maxRecDepth 100000 in
theorem add_5 (arg : Int) (Af Ar : Option Addr) (nf cf nr cr base : Nat) (F R : List SL) (w : World) (ha : 0 ≤ arg ∧ arg ≤ 100000) (hnf : F.length = nf) (hnr : R.length = nr) (hf : nf ≤ 100000) (hr : nr ≤ 100000) (hb : base ≤ w.heap.size) (hsF : Small F) (hsR : Small R)
  (hp : PileX 0 0 w base (.slice Af nf cf) (.slice Ar nr cr) F R) :
  Calls Tryz.prog 21 #[.agg #[.slice Af nf cf, .slice Ar nr cr], .int .i64 5, .int .i64 arg] w (GotPile w base (addL 5 arg (F.map (·.1)) (R.map (·.1)))) := by
 obtain ⟨j0, hj0, hy0, hy1, hy2⟩ := info_parts infoLists
 obtain ⟨ha1, ha2⟩ := ha
 have hfi : (nf : Int) ≤ 100000 := by omega
 have hri : (nr : Int) ≤ 100000 := by omega
 subst hnf
 subst hnr
 have HP0 := Lib.hid hp
 have HNF := Lib.hid (show F.length = F.length from rfl)
 have HNR := Lib.hid (show R.length = R.length from rfl)
 have HB := Lib.hid hb
 have HSF := Lib.hid hsF
 have HSR := Lib.hid hsR
 have HSZ := Lib.hid (add_size w)
 have HPX := Lib.hid (fun o1 o2 o3 => add_pile HP0.out o1 o2 o3)
 have HBX := Lib.hid (fun o1 o2 => add_box w o1 o2)
 have HF0 := Lib.hid hf
 have HR0 := Lib.hid hr
 clear hp hb hsF hsR hf hr
 obtain ⟨_, _, eL, hLc, -, -, -⟩ := HP0.out.1.slice
 have hLc' : F.length ≤ cf := by injection eL with e1 e2 e3; omega
 clear eL hLc
 by_cases h0 : 1 < F.length
 ·have HONE := Lib.hid (fun W (hb : Below w.heap.size w W) => lawTwo (kindNd 5) rfl Af F.length cf F (Off (.slice Ar R.length cr) w.heap.size (w.heap.size + 2)) W rfl h0 (by have := HF0.out; have := HR0.out; omega) hLc' (fun s hs => (HSF.out s hs).1) (kind_small _ (by omega)) (fun s hs => (HSF.out s hs).2) (add_pile2 HP0.out hb).lists)
  have HH0 := Lib.hid h0
  clear hLc' h0
  go_enter Tryz.func21, Tryz.ntmps21
  go_wp2_with (first
   | (go_at_call 27; refine (HONE.out _ (add_two w _ _)).mono ?_; rintro e w3 ⟨v3, τ, rfl, hown3, hτ, hb3⟩; obtain ⟨A3, c3, e3, -, -, -, -⟩ := hown3.slice; subst e3; have k0 := blk_below hb3 (blk_alloc (new_at w _)); have k1 := blk_below hb3 (new_at2 w _ _); have k00 := blk_cell k0 0 _ rfl; have k01 := blk_cell k0 1 _ rfl; have f00 := blk_frozen k0 0; have f01 := blk_frozen k0 1; have k10 := blk_cell k1 0 _ rfl; have k11 := blk_cell k1 1 _ rfl; have f10 := blk_frozen k1 0; have f11 := blk_frozen k1 1; have HP3 := Lib.hid ((add_pile2 HP0.out (add_two w _ _)).fresh hb3 hown3 (by simp) (by simp; have := HB.out; omega)); have HB3 := Lib.hid (((add_two w _ _).mono HB.out).trans (hb3.mono (by simp; have := HB.out; omega))); have HT := Lib.hid hτ; clear k0 k1 hown3 hb3 hτ))
  have he := end_cells (k := 0) (fv := .slice A3 τ.length c3) (rv := .slice Ar R.length cr) (x := .slice A3 τ.length c3) k10 k11
  unfold endW at he
  refine bodyPost_ret (v := .agg #[.slice A3 τ.length c3, .slice Ar R.length cr]) (by simp [results, Tryz.results21, go_sem, he]) rfl ⟨_, _, τ, R, rfl, pile_end (k := 0) (x := .slice A3 τ.length c3) HP3.out, ?_, below_end HB3.out HB.out⟩
  have hl : (F.map (·.1)).length = F.length := List.length_map _
  unfold addL
  rw [if_neg (by decide), if_neg (by decide), if_neg (by decide), if_pos (by decide)]
  unfold twoL
  rw [hl, if_neg (by have := HH0.out; omega), HT.out]
 ·have HZ := Lib.hid (fun W => lawTwo0n (kindNd 5) Af F.length cf W (by omega))
  have HH0 := Lib.hid h0
  clear hLc' h0
  go_enter Tryz.func21, Tryz.ntmps21
  go_wp2_with (first
   | (go_at_call 27; refine (HZ.out _).mono ?_; rintro e w3 ⟨rfl, hb3⟩; have k0 := blk_below hb3 (blk_alloc (new_at w _)); have k1 := blk_below hb3 (new_at2 w _ _); have k00 := blk_cell k0 0 _ rfl; have k01 := blk_cell k0 1 _ rfl; have f00 := blk_frozen k0 0; have f01 := blk_frozen k0 1; have k10 := blk_cell k1 0 _ rfl; have k11 := blk_cell k1 1 _ rfl; have f10 := blk_frozen k1 0; have f11 := blk_frozen k1 1; have HP3 := Lib.hid ((add_pile2 HP0.out (add_two w _ _)).below hb3); have HB3 := Lib.hid (((add_two w _ _).mono HB.out).trans (hb3.mono (by simp; have := HB.out; omega))); clear k0 k1 hb3))
  have he := end_cells (k := 0) (fv := .slice Af F.length cf) (rv := .slice Ar R.length cr) (x := .slice Af F.length cf) k10 k11
  unfold endW at he
  refine bodyPost_ret (v := .agg #[.slice Af F.length cf, .slice Ar R.length cr]) (by simp [results, Tryz.results21, go_sem, he]) rfl ⟨_, _, F, R, rfl, pile_end (k := 0) (x := .slice Af F.length cf) HP3.out, ?_, below_end HB3.out HB.out⟩
  have hl : (F.map (·.1)).length = F.length := List.length_map _
  unfold addL
  rw [if_neg (by decide), if_neg (by decide), if_neg (by decide), if_pos (by decide)]
  unfold twoL
  rw [hl, if_pos (by have := HH0.out; omega)]
set_option maxHeartbeats 4000000 in
set_option maxRecDepth 100000 in
theorem add_6 (arg : Int) (Af Ar : Option Addr) (nf cf nr cr base : Nat) (F R : List SL) (w : World) (ha : 0 ≤ arg ∧ arg ≤ 100000) (hnf : F.length = nf) (hnr : R.length = nr) (hf : nf ≤ 100000) (hr : nr ≤ 100000) (hb : base ≤ w.heap.size) (hsF : Small F) (hsR : Small R)
  (hp : PileX 0 0 w base (.slice Af nf cf) (.slice Ar nr cr) F R) :
  Calls Tryz.prog 21 #[.agg #[.slice Af nf cf, .slice Ar nr cr], .int .i64 6, .int .i64 arg] w (GotPile w base (addL 6 arg (F.map (·.1)) (R.map (·.1)))) := by
 obtain ⟨j0, hj0, hy0, hy1, hy2⟩ := info_parts infoLists
 obtain ⟨ha1, ha2⟩ := ha
 have hfi : (nf : Int) ≤ 100000 := by omega
 have hri : (nr : Int) ≤ 100000 := by omega
 subst hnf
 subst hnr
 have HP0 := Lib.hid hp
 have HNF := Lib.hid (show F.length = F.length from rfl)
 have HNR := Lib.hid (show R.length = R.length from rfl)
 have HB := Lib.hid hb
 have HSF := Lib.hid hsF
 have HSR := Lib.hid hsR
 have HSZ := Lib.hid (add_size w)
 have HPX := Lib.hid (fun o1 o2 o3 => add_pile HP0.out o1 o2 o3)
 have HBX := Lib.hid (fun o1 o2 => add_box w o1 o2)
 have HF0 := Lib.hid hf
 have HR0 := Lib.hid hr
 clear hp hb hsF hsR hf hr
 obtain ⟨_, _, eL, hLc, -, -, -⟩ := HP0.out.1.slice
 have hLc' : F.length ≤ cf := by injection eL with e1 e2 e3; omega
 clear eL hLc
 by_cases h0 : 1 < F.length
 ·have HONE := Lib.hid (fun W (hb : Below w.heap.size w W) => lawTwo (kindNd 6) rfl Af F.length cf F (Off (.slice Ar R.length cr) w.heap.size (w.heap.size + 2)) W rfl h0 (by have := HF0.out; have := HR0.out; omega) hLc' (fun s hs => (HSF.out s hs).1) (kind_small _ (by omega)) (fun s hs => (HSF.out s hs).2) (add_pile2 HP0.out hb).lists)
  have HH0 := Lib.hid h0
  clear hLc' h0
  go_enter Tryz.func21, Tryz.ntmps21
  go_wp2_with (first
   | (go_at_call 27; refine (HONE.out _ (add_two w _ _)).mono ?_; rintro e w3 ⟨v3, τ, rfl, hown3, hτ, hb3⟩; obtain ⟨A3, c3, e3, -, -, -, -⟩ := hown3.slice; subst e3; have k0 := blk_below hb3 (blk_alloc (new_at w _)); have k1 := blk_below hb3 (new_at2 w _ _); have k00 := blk_cell k0 0 _ rfl; have k01 := blk_cell k0 1 _ rfl; have f00 := blk_frozen k0 0; have f01 := blk_frozen k0 1; have k10 := blk_cell k1 0 _ rfl; have k11 := blk_cell k1 1 _ rfl; have f10 := blk_frozen k1 0; have f11 := blk_frozen k1 1; have HP3 := Lib.hid ((add_pile2 HP0.out (add_two w _ _)).fresh hb3 hown3 (by simp) (by simp; have := HB.out; omega)); have HB3 := Lib.hid (((add_two w _ _).mono HB.out).trans (hb3.mono (by simp; have := HB.out; omega))); have HT := Lib.hid hτ; clear k0 k1 hown3 hb3 hτ))
  have he := end_cells (k := 0) (fv := .slice A3 τ.length c3) (rv := .slice Ar R.length cr) (x := .slice A3 τ.length c3) k10 k11
  unfold endW at he
  refine bodyPost_ret (v := .agg #[.slice A3 τ.length c3, .slice Ar R.length cr]) (by simp [results, Tryz.results21, go_sem, he]) rfl ⟨_, _, τ, R, rfl, pile_end (k := 0) (x := .slice A3 τ.length c3) HP3.out, ?_, below_end HB3.out HB.out⟩
  have hl : (F.map (·.1)).length = F.length := List.length_map _
  unfold addL
  rw [if_neg (by decide), if_neg (by decide), if_neg (by decide), if_pos (by decide)]
  unfold twoL
  rw [hl, if_neg (by have := HH0.out; omega), HT.out]
 ·have HZ := Lib.hid (fun W => lawTwo0n (kindNd 6) Af F.length cf W (by omega))
  have HH0 := Lib.hid h0
  clear hLc' h0
  go_enter Tryz.func21, Tryz.ntmps21
  go_wp2_with (first
   | (go_at_call 27; refine (HZ.out _).mono ?_; rintro e w3 ⟨rfl, hb3⟩; have k0 := blk_below hb3 (blk_alloc (new_at w _)); have k1 := blk_below hb3 (new_at2 w _ _); have k00 := blk_cell k0 0 _ rfl; have k01 := blk_cell k0 1 _ rfl; have f00 := blk_frozen k0 0; have f01 := blk_frozen k0 1; have k10 := blk_cell k1 0 _ rfl; have k11 := blk_cell k1 1 _ rfl; have f10 := blk_frozen k1 0; have f11 := blk_frozen k1 1; have HP3 := Lib.hid ((add_pile2 HP0.out (add_two w _ _)).below hb3); have HB3 := Lib.hid (((add_two w _ _).mono HB.out).trans (hb3.mono (by simp; have := HB.out; omega))); clear k0 k1 hb3))
  have he := end_cells (k := 0) (fv := .slice Af F.length cf) (rv := .slice Ar R.length cr) (x := .slice Af F.length cf) k10 k11
  unfold endW at he
  refine bodyPost_ret (v := .agg #[.slice Af F.length cf, .slice Ar R.length cr]) (by simp [results, Tryz.results21, go_sem, he]) rfl ⟨_, _, F, R, rfl, pile_end (k := 0) (x := .slice Af F.length cf) HP3.out, ?_, below_end HB3.out HB.out⟩
  have hl : (F.map (·.1)).length = F.length := List.length_map _
  unfold addL
  rw [if_neg (by decide), if_neg (by decide), if_neg (by decide), if_pos (by decide)]
  unfold twoL
  rw [hl, if_pos (by have := HH0.out; omega)]
set_option maxHeartbeats 4000000 in
set_option maxRecDepth 100000 in
theorem add_7 (arg : Int) (Af Ar : Option Addr) (nf cf nr cr base : Nat) (F R : List SL) (w : World) (ha : 0 ≤ arg ∧ arg ≤ 100000) (hnf : F.length = nf) (hnr : R.length = nr) (hf : nf ≤ 100000) (hr : nr ≤ 100000) (hb : base ≤ w.heap.size) (hsF : Small F) (hsR : Small R)
  (hp : PileX 0 0 w base (.slice Af nf cf) (.slice Ar nr cr) F R) :
  Calls Tryz.prog 21 #[.agg #[.slice Af nf cf, .slice Ar nr cr], .int .i64 7, .int .i64 arg] w (GotPile w base (addL 7 arg (F.map (·.1)) (R.map (·.1)))) := by
 obtain ⟨j0, hj0, hy0, hy1, hy2⟩ := info_parts infoLists
 obtain ⟨ha1, ha2⟩ := ha
 have hfi : (nf : Int) ≤ 100000 := by omega
 have hri : (nr : Int) ≤ 100000 := by omega
 subst hnf
 subst hnr
 have HP0 := Lib.hid hp
 have HNF := Lib.hid (show F.length = F.length from rfl)
 have HNR := Lib.hid (show R.length = R.length from rfl)
 have HB := Lib.hid hb
 have HSF := Lib.hid hsF
 have HSR := Lib.hid hsR
 have HSZ := Lib.hid (add_size w)
 have HPX := Lib.hid (fun o1 o2 o3 => add_pile HP0.out o1 o2 o3)
 have HBX := Lib.hid (fun o1 o2 => add_box w o1 o2)
 have HF0 := Lib.hid hf
 have HR0 := Lib.hid hr
 clear hp hb hsF hsR hf hr
 obtain ⟨_, _, eL, hLc, -, -, -⟩ := HP0.out.1.slice
 have hLc' : F.length ≤ cf := by injection eL with e1 e2 e3; omega
 clear eL hLc
 by_cases h0 : 1 < F.length
 ·have HONE := Lib.hid (fun W (hb : Below w.heap.size w W) => lawTwo (kindNd 7) rfl Af F.length cf F (Off (.slice Ar R.length cr) w.heap.size (w.heap.size + 2)) W rfl h0 (by have := HF0.out; have := HR0.out; omega) hLc' (fun s hs => (HSF.out s hs).1) (kind_small _ (by omega)) (fun s hs => (HSF.out s hs).2) (add_pile2 HP0.out hb).lists)
  have HH0 := Lib.hid h0
  clear hLc' h0
  go_enter Tryz.func21, Tryz.ntmps21
  go_wp2_with (first
   | (go_at_call 27; refine (HONE.out _ (add_two w _ _)).mono ?_; rintro e w3 ⟨v3, τ, rfl, hown3, hτ, hb3⟩; obtain ⟨A3, c3, e3, -, -, -, -⟩ := hown3.slice; subst e3; have k0 := blk_below hb3 (blk_alloc (new_at w _)); have k1 := blk_below hb3 (new_at2 w _ _); have k00 := blk_cell k0 0 _ rfl; have k01 := blk_cell k0 1 _ rfl; have f00 := blk_frozen k0 0; have f01 := blk_frozen k0 1; have k10 := blk_cell k1 0 _ rfl; have k11 := blk_cell k1 1 _ rfl; have f10 := blk_frozen k1 0; have f11 := blk_frozen k1 1; have HP3 := Lib.hid ((add_pile2 HP0.out (add_two w _ _)).fresh hb3 hown3 (by simp) (by simp; have := HB.out; omega)); have HB3 := Lib.hid (((add_two w _ _).mono HB.out).trans (hb3.mono (by simp; have := HB.out; omega))); have HT := Lib.hid hτ; clear k0 k1 hown3 hb3 hτ))
  have he := end_cells (k := 0) (fv := .slice A3 τ.length c3) (rv := .slice Ar R.length cr) (x := .slice A3 τ.length c3) k10 k11
  unfold endW at he
  refine bodyPost_ret (v := .agg #[.slice A3 τ.length c3, .slice Ar R.length cr]) (by simp [results, Tryz.results21, go_sem, he]) rfl ⟨_, _, τ, R, rfl, pile_end (k := 0) (x := .slice A3 τ.length c3) HP3.out, ?_, below_end HB3.out HB.out⟩
  have hl : (F.map (·.1)).length = F.length := List.length_map _
  unfold addL
  rw [if_neg (by decide), if_neg (by decide), if_neg (by decide), if_pos (by decide)]
  unfold twoL
  rw [hl, if_neg (by have := HH0.out; omega), HT.out]
 ·have HZ := Lib.hid (fun W => lawTwo0n (kindNd 7) Af F.length cf W (by omega))
  have HH0 := Lib.hid h0
  clear hLc' h0
  go_enter Tryz.func21, Tryz.ntmps21
  go_wp2_with (first
   | (go_at_call 27; refine (HZ.out _).mono ?_; rintro e w3 ⟨rfl, hb3⟩; have k0 := blk_below hb3 (blk_alloc (new_at w _)); have k1 := blk_below hb3 (new_at2 w _ _); have k00 := blk_cell k0 0 _ rfl; have k01 := blk_cell k0 1 _ rfl; have f00 := blk_frozen k0 0; have f01 := blk_frozen k0 1; have k10 := blk_cell k1 0 _ rfl; have k11 := blk_cell k1 1 _ rfl; have f10 := blk_frozen k1 0; have f11 := blk_frozen k1 1; have HP3 := Lib.hid ((add_pile2 HP0.out (add_two w _ _)).below hb3); have HB3 := Lib.hid (((add_two w _ _).mono HB.out).trans (hb3.mono (by simp; have := HB.out; omega))); clear k0 k1 hb3))
  have he := end_cells (k := 0) (fv := .slice Af F.length cf) (rv := .slice Ar R.length cr) (x := .slice Af F.length cf) k10 k11
  unfold endW at he
  refine bodyPost_ret (v := .agg #[.slice Af F.length cf, .slice Ar R.length cr]) (by simp [results, Tryz.results21, go_sem, he]) rfl ⟨_, _, F, R, rfl, pile_end (k := 0) (x := .slice Af F.length cf) HP3.out, ?_, below_end HB3.out HB.out⟩
  have hl : (F.map (·.1)).length = F.length := List.length_map _
  unfold addL
  rw [if_neg (by decide), if_neg (by decide), if_neg (by decide), if_pos (by decide)]
  unfold twoL
  rw [hl, if_pos (by have := HH0.out; omega)]
set_option maxHeartbeats 4000000 in
set_option maxRecDepth 100000 in
theorem add_21 (arg : Int) (Af Ar : Option Addr) (nf cf nr cr base : Nat) (F R : List SL) (w : World) (ha : 0 ≤ arg ∧ arg ≤ 100000) (hnf : F.length = nf) (hnr : R.length = nr) (hf : nf ≤ 100000) (hr : nr ≤ 100000) (hb : base ≤ w.heap.size) (hsF : Small F) (hsR : Small R)
  (hp : PileX 0 0 w base (.slice Af nf cf) (.slice Ar nr cr) F R) :
  Calls Tryz.prog 21 #[.agg #[.slice Af nf cf, .slice Ar nr cr], .int .i64 21, .int .i64 arg] w (GotPile w base (addL 21 arg (F.map (·.1)) (R.map (·.1)))) := by
 obtain ⟨j0, hj0, hy0, hy1, hy2⟩ := info_parts infoLists
 obtain ⟨ha1, ha2⟩ := ha
 have hfi : (nf : Int) ≤ 100000 := by omega
 have hri : (nr : Int) ≤ 100000 := by omega
 subst hnf
 subst hnr
 have HP0 := Lib.hid hp
 have HNF := Lib.hid (show F.length = F.length from rfl)
 have HNR := Lib.hid (show R.length = R.length from rfl)
 have HB := Lib.hid hb
 have HSF := Lib.hid hsF
 have HSR := Lib.hid hsR
 have HSZ := Lib.hid (add_size w)
 have HPX := Lib.hid (fun o1 o2 o3 => add_pile HP0.out o1 o2 o3)
 have HBX := Lib.hid (fun o1 o2 => add_box w o1 o2)
 have HF0 := Lib.hid hf
 have HR0 := Lib.hid hr
 clear hp hb hsF hsR hf hr
 obtain ⟨_, _, eL, hLc, -, -, -⟩ := HP0.out.swap.1.slice
 have hLc' : R.length ≤ cr := by injection eL with e1 e2 e3; omega
 clear eL hLc
 by_cases h0 : 1 < R.length
 ·have HONE := Lib.hid (fun W (hb : Below w.heap.size w W) => lawTwo (kindNd 20) rfl Ar R.length cr R (Off (.slice Af F.length cf) w.heap.size (w.heap.size + 2)) W rfl h0 (by have := HF0.out; have := HR0.out; omega) hLc' (fun s hs => (HSR.out s hs).1) (kind_small _ (by omega)) (fun s hs => (HSR.out s hs).2) (add_pile2 HP0.out hb).swap.lists)
  have HH0 := Lib.hid h0
  clear hLc' h0
  go_enter Tryz.func21, Tryz.ntmps21
  go_wp2_with (first
   | (go_at_call 27; refine (HONE.out _ (add_two w _ _)).mono ?_; rintro e w3 ⟨v3, τ, rfl, hown3, hτ, hb3⟩; obtain ⟨A3, c3, e3, -, -, -, -⟩ := hown3.slice; subst e3; have k0 := blk_below hb3 (blk_alloc (new_at w _)); have k1 := blk_below hb3 (new_at2 w _ _); have k00 := blk_cell k0 0 _ rfl; have k01 := blk_cell k0 1 _ rfl; have f00 := blk_frozen k0 0; have f01 := blk_frozen k0 1; have k10 := blk_cell k1 0 _ rfl; have k11 := blk_cell k1 1 _ rfl; have f10 := blk_frozen k1 0; have f11 := blk_frozen k1 1; have HP3 := Lib.hid ((add_pile2 HP0.out (add_two w _ _)).swap.fresh hb3 hown3 (by simp) (by simp; have := HB.out; omega)); have HB3 := Lib.hid (((add_two w _ _).mono HB.out).trans (hb3.mono (by simp; have := HB.out; omega))); have HT := Lib.hid hτ; clear k0 k1 hown3 hb3 hτ))
  have he := end_cells (k := 1) (fv := .slice Af F.length cf) (rv := .slice A3 τ.length c3) (x := .slice A3 τ.length c3) k10 k11
  unfold endW at he
  refine bodyPost_ret (v := .agg #[.slice Af F.length cf, .slice A3 τ.length c3]) (by simp [results, Tryz.results21, go_sem, he]) rfl ⟨_, _, F, τ, rfl, pile_end (k := 1) (x := .slice A3 τ.length c3) HP3.out.swap, ?_, below_end HB3.out HB.out⟩
  have hl : (R.map (·.1)).length = R.length := List.length_map _
  unfold addL
  rw [if_neg (by decide), if_neg (by decide), if_neg (by decide), if_neg (by decide), if_neg (by decide), if_neg (by decide), if_neg (by decide), if_neg (by decide), if_neg (by decide), if_pos (by decide)]
  unfold twoL
  rw [hl, if_neg (by have := HH0.out; omega), HT.out]
  rfl
 ·have HZ := Lib.hid (fun W => lawTwo0n (kindNd 20) Ar R.length cr W (by omega))
  have HH0 := Lib.hid h0
  clear hLc' h0
  go_enter Tryz.func21, Tryz.ntmps21
  go_wp2_with (first
   | (go_at_call 27; refine (HZ.out _).mono ?_; rintro e w3 ⟨rfl, hb3⟩; have k0 := blk_below hb3 (blk_alloc (new_at w _)); have k1 := blk_below hb3 (new_at2 w _ _); have k00 := blk_cell k0 0 _ rfl; have k01 := blk_cell k0 1 _ rfl; have f00 := blk_frozen k0 0; have f01 := blk_frozen k0 1; have k10 := blk_cell k1 0 _ rfl; have k11 := blk_cell k1 1 _ rfl; have f10 := blk_frozen k1 0; have f11 := blk_frozen k1 1; have HP3 := Lib.hid ((add_pile2 HP0.out (add_two w _ _)).below hb3); have HB3 := Lib.hid (((add_two w _ _).mono HB.out).trans (hb3.mono (by simp; have := HB.out; omega))); clear k0 k1 hb3))
  have he := end_cells (k := 1) (fv := .slice Af F.length cf) (rv := .slice Ar R.length cr) (x := .slice Ar R.length cr) k10 k11
  unfold endW at he
  refine bodyPost_ret (v := .agg #[.slice Af F.length cf, .slice Ar R.length cr]) (by simp [results, Tryz.results21, go_sem, he]) rfl ⟨_, _, F, R, rfl, pile_end (k := 1) (x := .slice Ar R.length cr) HP3.out, ?_, below_end HB3.out HB.out⟩
  have hl : (R.map (·.1)).length = R.length := List.length_map _
  unfold addL
  rw [if_neg (by decide), if_neg (by decide), if_neg (by decide), if_neg (by decide), if_neg (by decide), if_neg (by decide), if_neg (by decide), if_neg (by decide), if_neg (by decide), if_pos (by decide)]
  unfold twoL
  rw [hl, if_pos (by have := HH0.out; omega)]
set_option maxHeartbeats 4000000 in
set_option maxRecDepth 100000 in
theorem add_22 (arg : Int) (Af Ar : Option Addr) (nf cf nr cr base : Nat) (F R : List SL) (w : World) (ha : 0 ≤ arg ∧ arg ≤ 100000) (hnf : F.length = nf) (hnr : R.length = nr) (hf : nf ≤ 100000) (hr : nr ≤ 100000) (hb : base ≤ w.heap.size) (hsF : Small F) (hsR : Small R)
  (hp : PileX 0 0 w base (.slice Af nf cf) (.slice Ar nr cr) F R) :
  Calls Tryz.prog 21 #[.agg #[.slice Af nf cf, .slice Ar nr cr], .int .i64 22, .int .i64 arg] w (GotPile w base (addL 22 arg (F.map (·.1)) (R.map (·.1)))) := by
 obtain ⟨j0, hj0, hy0, hy1, hy2⟩ := info_parts infoLists
 obtain ⟨ha1, ha2⟩ := ha
 have hfi : (nf : Int) ≤ 100000 := by omega
 have hri : (nr : Int) ≤ 100000 := by omega
 subst hnf
 subst hnr
 have HP0 := Lib.hid hp
 have HNF := Lib.hid (show F.length = F.length from rfl)
 have HNR := Lib.hid (show R.length = R.length from rfl)
 have HB := Lib.hid hb
 have HSF := Lib.hid hsF
 have HSR := Lib.hid hsR
 have HSZ := Lib.hid (add_size w)
 have HPX := Lib.hid (fun o1 o2 o3 => add_pile HP0.out o1 o2 o3)
 have HBX := Lib.hid (fun o1 o2 => add_box w o1 o2)
 have HF0 := Lib.hid hf
 have HR0 := Lib.hid hr
 clear hp hb hsF hsR hf hr
 obtain ⟨_, _, eL, hLc, -, -, -⟩ := HP0.out.swap.1.slice
 have hLc' : R.length ≤ cr := by injection eL with e1 e2 e3; omega
 clear eL hLc
 by_cases h0 : 1 < R.length
 ·have HONE := Lib.hid (fun W (hb : Below w.heap.size w W) => lawTwo (kindNd 21) rfl Ar R.length cr R (Off (.slice Af F.length cf) w.heap.size (w.heap.size + 2)) W rfl h0 (by have := HF0.out; have := HR0.out; omega) hLc' (fun s hs => (HSR.out s hs).1) (kind_small _ (by omega)) (fun s hs => (HSR.out s hs).2) (add_pile2 HP0.out hb).swap.lists)
  have HH0 := Lib.hid h0
  clear hLc' h0
  go_enter Tryz.func21, Tryz.ntmps21
  go_wp2_with (first
   | (go_at_call 27; refine (HONE.out _ (add_two w _ _)).mono ?_; rintro e w3 ⟨v3, τ, rfl, hown3, hτ, hb3⟩; obtain ⟨A3, c3, e3, -, -, -, -⟩ := hown3.slice; subst e3; have k0 := blk_below hb3 (blk_alloc (new_at w _)); have k1 := blk_below hb3 (new_at2 w _ _); have k00 := blk_cell k0 0 _ rfl; have k01 := blk_cell k0 1 _ rfl; have f00 := blk_frozen k0 0; have f01 := blk_frozen k0 1; have k10 := blk_cell k1 0 _ rfl; have k11 := blk_cell k1 1 _ rfl; have f10 := blk_frozen k1 0; have f11 := blk_frozen k1 1; have HP3 := Lib.hid ((add_pile2 HP0.out (add_two w _ _)).swap.fresh hb3 hown3 (by simp) (by simp; have := HB.out; omega)); have HB3 := Lib.hid (((add_two w _ _).mono HB.out).trans (hb3.mono (by simp; have := HB.out; omega))); have HT := Lib.hid hτ; clear k0 k1 hown3 hb3 hτ))
  have he := end_cells (k := 1) (fv := .slice Af F.length cf) (rv := .slice A3 τ.length c3) (x := .slice A3 τ.length c3) k10 k11
  unfold endW at he
  refine bodyPost_ret (v := .agg #[.slice Af F.length cf, .slice A3 τ.length c3]) (by simp [results, Tryz.results21, go_sem, he]) rfl ⟨_, _, F, τ, rfl, pile_end (k := 1) (x := .slice A3 τ.length c3) HP3.out.swap, ?_, below_end HB3.out HB.out⟩
  have hl : (R.map (·.1)).length = R.length := List.length_map _
  unfold addL
  rw [if_neg (by decide), if_neg (by decide), if_neg (by decide), if_neg (by decide), if_neg (by decide), if_neg (by decide), if_neg (by decide), if_neg (by decide), if_neg (by decide), if_pos (by decide)]
  unfold twoL
  rw [hl, if_neg (by have := HH0.out; omega), HT.out]
  rfl
 ·have HZ := Lib.hid (fun W => lawTwo0n (kindNd 21) Ar R.length cr W (by omega))
  have HH0 := Lib.hid h0
  clear hLc' h0
  go_enter Tryz.func21, Tryz.ntmps21
  go_wp2_with (first
   | (go_at_call 27; refine (HZ.out _).mono ?_; rintro e w3 ⟨rfl, hb3⟩; have k0 := blk_below hb3 (blk_alloc (new_at w _)); have k1 := blk_below hb3 (new_at2 w _ _); have k00 := blk_cell k0 0 _ rfl; have k01 := blk_cell k0 1 _ rfl; have f00 := blk_frozen k0 0; have f01 := blk_frozen k0 1; have k10 := blk_cell k1 0 _ rfl; have k11 := blk_cell k1 1 _ rfl; have f10 := blk_frozen k1 0; have f11 := blk_frozen k1 1; have HP3 := Lib.hid ((add_pile2 HP0.out (add_two w _ _)).below hb3); have HB3 := Lib.hid (((add_two w _ _).mono HB.out).trans (hb3.mono (by simp; have := HB.out; omega))); clear k0 k1 hb3))
  have he := end_cells (k := 1) (fv := .slice Af F.length cf) (rv := .slice Ar R.length cr) (x := .slice Ar R.length cr) k10 k11
  unfold endW at he
  refine bodyPost_ret (v := .agg #[.slice Af F.length cf, .slice Ar R.length cr]) (by simp [results, Tryz.results21, go_sem, he]) rfl ⟨_, _, F, R, rfl, pile_end (k := 1) (x := .slice Ar R.length cr) HP3.out, ?_, below_end HB3.out HB.out⟩
  have hl : (R.map (·.1)).length = R.length := List.length_map _
  unfold addL
  rw [if_neg (by decide), if_neg (by decide), if_neg (by decide), if_neg (by decide), if_neg (by decide), if_neg (by decide), if_neg (by decide), if_neg (by decide), if_neg (by decide), if_pos (by decide)]
  unfold twoL
  rw [hl, if_pos (by have := HH0.out; omega)]
set_option maxHeartbeats 4000000 in
set_option maxRecDepth 100000 in
theorem add_23 (arg : Int) (Af Ar : Option Addr) (nf cf nr cr base : Nat) (F R : List SL) (w : World) (ha : 0 ≤ arg ∧ arg ≤ 100000) (hnf : F.length = nf) (hnr : R.length = nr) (hf : nf ≤ 100000) (hr : nr ≤ 100000) (hb : base ≤ w.heap.size) (hsF : Small F) (hsR : Small R)
  (hp : PileX 0 0 w base (.slice Af nf cf) (.slice Ar nr cr) F R) :
  Calls Tryz.prog 21 #[.agg #[.slice Af nf cf, .slice Ar nr cr], .int .i64 23, .int .i64 arg] w (GotPile w base (addL 23 arg (F.map (·.1)) (R.map (·.1)))) := by
 obtain ⟨j0, hj0, hy0, hy1, hy2⟩ := info_parts infoLists
 obtain ⟨ha1, ha2⟩ := ha
 have hfi : (nf : Int) ≤ 100000 := by omega
 have hri : (nr : Int) ≤ 100000 := by omega
 subst hnf
 subst hnr
 have HP0 := Lib.hid hp
 have HNF := Lib.hid (show F.length = F.length from rfl)
 have HNR := Lib.hid (show R.length = R.length from rfl)
 have HB := Lib.hid hb
 have HSF := Lib.hid hsF
 have HSR := Lib.hid hsR
 have HSZ := Lib.hid (add_size w)
 have HPX := Lib.hid (fun o1 o2 o3 => add_pile HP0.out o1 o2 o3)
 have HBX := Lib.hid (fun o1 o2 => add_box w o1 o2)
 have HF0 := Lib.hid hf
 have HR0 := Lib.hid hr
 clear hp hb hsF hsR hf hr
 obtain ⟨_, _, eL, hLc, -, -, -⟩ := HP0.out.swap.1.slice
 have hLc' : R.length ≤ cr := by injection eL with e1 e2 e3; omega
 clear eL hLc
 by_cases h0 : 0 < R.length
 ·have HONE := Lib.hid (fun W (hb : Below w.heap.size w W) => lawOne (kindNd 22) rfl Ar R.length cr R (Off (.slice Af F.length cf) w.heap.size (w.heap.size + 2)) W rfl h0 (by have := HF0.out; have := HR0.out; omega) hLc' (fun s hs => (HSR.out s hs).1) (kind_small _ (by omega)) (add_pile2 HP0.out hb).swap.lists)
  have HH0 := Lib.hid h0
  clear hLc' h0
  go_enter Tryz.func21, Tryz.ntmps21
  go_wp2_with (first
   | (go_at_call 26; refine (HONE.out _ (add_two w _ _)).mono ?_; rintro e w3 ⟨v3, τ, rfl, hown3, hτ, hb3⟩; obtain ⟨A3, c3, e3, -, -, -, -⟩ := hown3.slice; subst e3; have k0 := blk_below hb3 (blk_alloc (new_at w _)); have k1 := blk_below hb3 (new_at2 w _ _); have k00 := blk_cell k0 0 _ rfl; have k01 := blk_cell k0 1 _ rfl; have f00 := blk_frozen k0 0; have f01 := blk_frozen k0 1; have k10 := blk_cell k1 0 _ rfl; have k11 := blk_cell k1 1 _ rfl; have f10 := blk_frozen k1 0; have f11 := blk_frozen k1 1; have HP3 := Lib.hid ((add_pile2 HP0.out (add_two w _ _)).swap.fresh hb3 hown3 (by simp) (by simp; have := HB.out; omega)); have HB3 := Lib.hid (((add_two w _ _).mono HB.out).trans (hb3.mono (by simp; have := HB.out; omega))); have HT := Lib.hid hτ; clear k0 k1 hown3 hb3 hτ))
  have he := end_cells (k := 1) (fv := .slice Af F.length cf) (rv := .slice A3 τ.length c3) (x := .slice A3 τ.length c3) k10 k11
  unfold endW at he
  refine bodyPost_ret (v := .agg #[.slice Af F.length cf, .slice A3 τ.length c3]) (by simp [results, Tryz.results21, go_sem, he]) rfl ⟨_, _, F, τ, rfl, pile_end (k := 1) (x := .slice A3 τ.length c3) HP3.out.swap, ?_, below_end HB3.out HB.out⟩
  have hl : (R.map (·.1)).length = R.length := List.length_map _
  unfold addL
  rw [if_neg (by decide), if_neg (by decide), if_neg (by decide), if_neg (by decide), if_neg (by decide), if_neg (by decide), if_neg (by decide), if_neg (by decide), if_neg (by decide), if_neg (by decide)]
  unfold oneL
  rw [hl, if_neg (by have := HH0.out; omega), HT.out]
 ·have HZ := Lib.hid (fun W => lawOne0n (kindNd 22) Ar R.length cr W (by omega))
  have HH0 := Lib.hid h0
  clear hLc' h0
  go_enter Tryz.func21, Tryz.ntmps21
  go_wp2_with (first
   | (go_at_call 26; refine (HZ.out _).mono ?_; rintro e w3 ⟨rfl, hb3⟩; have k0 := blk_below hb3 (blk_alloc (new_at w _)); have k1 := blk_below hb3 (new_at2 w _ _); have k00 := blk_cell k0 0 _ rfl; have k01 := blk_cell k0 1 _ rfl; have f00 := blk_frozen k0 0; have f01 := blk_frozen k0 1; have k10 := blk_cell k1 0 _ rfl; have k11 := blk_cell k1 1 _ rfl; have f10 := blk_frozen k1 0; have f11 := blk_frozen k1 1; have HP3 := Lib.hid ((add_pile2 HP0.out (add_two w _ _)).below hb3); have HB3 := Lib.hid (((add_two w _ _).mono HB.out).trans (hb3.mono (by simp; have := HB.out; omega))); clear k0 k1 hb3))
  have he := end_cells (k := 1) (fv := .slice Af F.length cf) (rv := .slice Ar R.length cr) (x := .slice Ar R.length cr) k10 k11
  unfold endW at he
  refine bodyPost_ret (v := .agg #[.slice Af F.length cf, .slice Ar R.length cr]) (by simp [results, Tryz.results21, go_sem, he]) rfl ⟨_, _, F, R, rfl, pile_end (k := 1) (x := .slice Ar R.length cr) HP3.out, ?_, below_end HB3.out HB.out⟩
  have hl : (R.map (·.1)).length = R.length := List.length_map _
  unfold addL
  rw [if_neg (by decide), if_neg (by decide), if_neg (by decide), if_neg (by decide), if_neg (by decide), if_neg (by decide), if_neg (by decide), if_neg (by decide), if_neg (by decide), if_neg (by decide)]
  unfold oneL
  rw [hl, if_pos (by have := HH0.out; omega)]
end Go.Proofs.YtdbgaccnejffpaaGreatDoor.Tree
