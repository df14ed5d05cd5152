/-
  The walks of the law's pile.add: a name. By an AI agent.
  The walk of the law's pile.add: a test over a formula. By an AI agent.
-/
import Derived.Test.YtdbgaccnejffpaaGreatDoorGSatDual40
import Derived.Deep.RegionLaw
import Derived.Deep.DrawnRows
namespace Go.Proofs.YtdbgaccnejffpaaGreatDoor.Tree
open Go.RowKit Go.Proofs.YtdbgaccnejffpaaGreatDoor.Ints
attribute [local go_sem ↓] Go.wp_at_zero Go.wp_at_succ
theorem add_pile4 {base : Nat} {fv rv : Value} {F R : List SL} {w : World} (hp : PileX 0 0 w base fv rv F R) (o1 o2 o3 o4 : Obj) : PileX w.heap.size (w.heap.size + 2) ((((w.alloc o1).alloc o2).alloc o3).alloc o4).drew base fv rv F R :=
 ((add_pile hp o1 o2 o3).below ((Below.refl _ _).alloc (Nat.le_refl _) o4).drew)
theorem add_blk3 (w : World) (o1 o2 o3 o4 : Obj) : ((((w.alloc o1).alloc o2).alloc o3).alloc o4).drew.heap[w.heap.size + 3]? = some o4 := by
 have h : ((w.alloc o1).alloc o2).heap.size + 1 = w.heap.size + 3 := by simp
 have := new_at2 ((w.alloc o1).alloc o2) o3 o4
 rw [h] at this
 exact blk_drew this
set_option maxRecDepth 100000 in
theorem name_at (w : World) : ∀ k : Nat, k < 3 → (Instr.index 68 (.agg #[.string { data := #[112] }, .string { data := #[113] }, .string { data := #[114] }]) (.int .i64 (k : Int))).run Tryz.prog w = .ok (.string ⟨([[112], [113], [114]].getD k []).toArray⟩) w := by
 intro k hk
 match k, hk with
 | 0, _ | 1, _ | 2, _ => rfl
theorem add_prop (w : World) (arg : Int) (o1 o2 o4 : Obj) {s : ByteArray} (h : (propNd arg).name = s) : BoxAt ((((w.alloc o1).alloc o2).alloc (.cells #[.int .i64 3, .string s, .int .i64 0, .int .i64 0, .slice none 0 0] 37)).alloc o4).drew (w.heap.size + 2) #[.int .i64 (propNd arg).kind, .string (propNd arg).name, .int .i64 (propNd arg).lo, .int .i64 (propNd arg).hi, .slice none 0 0] := by
 have h1 := add_box w o1 o2 #[.int .i64 3, .string s, .int .i64 0, .int .i64 0, .slice none 0 0]
 rw [h]
 exact blk_drew (blk_alloc h1)
theorem prop0 {n : Int} (h : n % 3 = 0) : (propNd n).name = { data := #[112] } := by unfold propNd; rw [if_pos h]
theorem prop1 {n : Int} (h : n % 3 = 1) : (propNd n).name = { data := #[113] } := by unfold propNd; rw [if_neg (by omega), if_pos h]
theorem prop2 {n : Int} (h : n % 3 = 2) : (propNd n).name = { data := #[114] } := by unfold propNd; rw [if_neg (by omega), if_neg (by omega)]
theorem prop_cases (n : Int) (_h : 0 ≤ n) : n % 3 = 0 ∨ n % 3 = 1 ∨ n % 3 = 2 := by omega
set_option maxHeartbeats 4000000 in
set_option maxRecDepth 100000 in
theorem add_1 (arg : Int) (Af Ar : Option Addr) (nf cf nr cr base : Nat) (F R : List SL) (w : World) (ha : 0 ≤ arg ∧ arg ≤ 100000) (hnf : F.length = nf) (hnr : R.length = nr) (hf : nf ≤ 100000) (hr : nr ≤ 100000) (hb : base ≤ w.heap.size) (hsF : Small F) (hsR : Small R)
  (hp : PileX 0 0 w base (.slice Af nf cf) (.slice Ar nr cr) F R) :
  Calls Tryz.prog 21 #[.agg #[.slice Af nf cf, .slice Ar nr cr], .int .i64 1, .int .i64 arg] w (GotPile w base (addL 1 arg (F.map (·.1)) (R.map (·.1)))) := by
 obtain ⟨j0, hj0, hy0, hy1, hy2⟩ := info_parts infoLists
 obtain ⟨ha1, ha2⟩ := ha
 have hfi : (nf : Int) ≤ 100000 := by omega
 have hri : (nr : Int) ≤ 100000 := by omega
 subst hnf
 subst hnr
 have HP0 := Lib.hid hp
 have HNF := Lib.hid (show F.length = F.length from rfl)
 have HNR := Lib.hid (show R.length = R.length from rfl)
 have HB := Lib.hid hb
 have HSF := Lib.hid hsF
 have HSR := Lib.hid hsR
 have HSZ := Lib.hid (add_size w)
 have HPX := Lib.hid (fun o1 o2 o3 => add_pile HP0.out o1 o2 o3)
 have HBX := Lib.hid (fun o1 o2 => add_box w o1 o2)
 have HF0 := Lib.hid hf
 have HR0 := Lib.hid hr
 clear hp hb hsF hsR hf hr
 have HLF := Lib.hid (show F.length ≤ 4194304 by have := HF0.out; omega)
 have HAP := Lib.hid (show Off (.slice Ar R.length cr) w.heap.size (w.heap.size + 2) (w.heap.size + 2) ∧ some (w.heap.size + 2) ≠ (Value.slice Af F.length cf).ownBlock from ⟨⟨fun e => by have := (HP0.out.2.1.1.lt _ e.symm).2; omega, Or.inr (Nat.le_refl _)⟩, fun e => by have := (HP0.out.1.1.lt _ e.symm).2; omega⟩)
 have HAB := Lib.hid (show Off (.slice Ar R.length cr) w.heap.size (w.heap.size + 2) (w.heap.size + 3) ∧ some (w.heap.size + 3) ≠ (Value.slice Af F.length cf).ownBlock from ⟨⟨fun e => by have := (HP0.out.2.1.1.lt _ e.symm).2; omega, Or.inr (by omega)⟩, fun e => by have := (HP0.out.1.1.lt _ e.symm).2; omega⟩)
 have HN0 := Lib.hid (show some w.heap.size ≠ (Value.slice Af F.length cf).ownBlock from fun e => by have := (HP0.out.1.1.lt _ e.symm).2; omega)
 have HN1 := Lib.hid (show some (w.heap.size + 1) ≠ (Value.slice Af F.length cf).ownBlock from fun e => by have := (HP0.out.1.1.lt _ e.symm).2; omega)
 have HPD := Lib.hid (fun o1 o2 o3 o4 => add_pile4 HP0.out o1 o2 o3 o4)
 have HBD := Lib.hid (fun (o1 o2 o3 o4 : Obj) => show Below base w ((((w.alloc o1).alloc o2).alloc o3).alloc o4).drew from (((((Below.refl base w).alloc HB.out _).alloc (le_alloc HB.out) _).alloc (le_alloc (le_alloc HB.out)) _).alloc (le_alloc (le_alloc (le_alloc HB.out))) _).drew)
 rcases prop_cases arg ha1 with hm | hm | hm
 all_goals
  have HMD := Lib.hid hm
  have htm : arg.tmod 3 = arg % 3 := Int.tmod_eq_emod_of_nonneg ha1
  rw [hm] at htm
  have hi0 := fun W => name_at W 0 (by decide)
  have hi1 := fun W => name_at W 1 (by decide)
  have hi2 := fun W => name_at W 2 (by decide)
  simp only [List.getD_cons_zero, List.getD_cons_succ, Int.natCast_zero, Int.natCast_one] at hi0 hi1 hi2
  replace hi2 : ∀ W, (Instr.index 68 (.agg #[.string { data := #[112] }, .string { data := #[113] }, .string { data := #[114] }]) (.int .i64 2)).run Tryz.prog W = .ok (.string { data := #[114] }) W := hi2
  go_enter Tryz.func21, Tryz.ntmps21
  go_wp2_with fail
  go_region_law
   (first
    | (refine step_append_sls rfl (.tmp 31) (.tmp 38) 48 rfl base j0 _ Tryz.underlying48 hj0 hy0 hy1 hy2 rfl (.slice Af F.length cf) F (by rfl) (Off (.slice Ar R.length cr) w.heap.size (w.heap.size + 2)) (HPD.out _ _ _ _).1 (some ⟨w.heap.size + 3, 0, none⟩) 1 1 [([propNd arg], some ⟨w.heap.size + 2, 0, none⟩, 1)] rfl (by rfl) (box_lists rfl (add_blk3 w _ _ _ _) HAB.out (one_list (add_prop w arg _ _ _ (by first | exact prop0 HMD.out | exact prop1 HMD.out | exact prop2 HMD.out)) rfl (prop_small arg) HAP.out)) (by have := HLF.out; have := HF0.out; omega) (by simp; have := HB.out; omega) ?_; intro v3 w3 hown3 hgr3 hat3; obtain ⟨A3, c3, e3, -, -, -, -⟩ := hown3.slice; subst e3; have k0 := blk_grown hgr3 (blk_drew (add_blk0 w _ _ _ _)) HN0.out; have k1 := blk_grown hgr3 (blk_drew (add_blk1 w _ _ _ _)) HN1.out; have k00 := blk_cell k0 0 _ rfl; have k01 := blk_cell k0 1 _ rfl; have f00 := blk_frozen k0 0; have k10 := blk_cell k1 0 _ rfl; have k11 := blk_cell k1 1 _ rfl; have f10 := blk_frozen k1 0; have f11 := blk_frozen k1 1; have HP3 := Lib.hid ((HPD.out _ _ _ _).grow hown3 hgr3 hat3 (by simp)); have HB3 := Lib.hid ((HBD.out _ _ _ _).grown hgr3 (by simp; have := HB.out; omega) (fun z hz => (HP0.out.1.1.lt z hz).1)); clear k0 k1 hown3 hgr3 hat3)
    )
  all_goals go_wp2
  all_goals
   have he := end_cells (k := 0) (fv := .slice A3 (F.length + 1) c3) (rv := .slice Ar R.length cr) (x := .slice A3 (F.length + 1) c3) k10 k11
   unfold endW at he
   refine bodyPost_ret (v := .agg #[.slice A3 (F.length + 1) c3, .slice Ar R.length cr]) (by simp [results, Tryz.results21, go_sem, he]) rfl ⟨_, _, F ++ [([propNd arg], some ⟨w.heap.size + 2, 0, none⟩, 1)], R, rfl, ?_, ?_, below_end HB3.out HB.out⟩
   ·have := HP3.out
    rw [List.length_append] at this
    exact pile_end (k := 0) (x := .slice A3 (F.length + 1) c3) this
   ·unfold addL
    rw [if_neg (by decide), if_pos (by decide), List.map_append]
    rfl
set_option maxHeartbeats 4000000 in
set_option maxRecDepth 100000 in
theorem add_2 (arg : Int) (Af Ar : Option Addr) (nf cf nr cr base : Nat) (F R : List SL) (w : World) (ha : 0 ≤ arg ∧ arg ≤ 100000) (hnf : F.length = nf) (hnr : R.length = nr) (hf : nf ≤ 100000) (hr : nr ≤ 100000) (hb : base ≤ w.heap.size) (hsF : Small F) (hsR : Small R)
  (hp : PileX 0 0 w base (.slice Af nf cf) (.slice Ar nr cr) F R) :
  Calls Tryz.prog 21 #[.agg #[.slice Af nf cf, .slice Ar nr cr], .int .i64 2, .int .i64 arg] w (GotPile w base (addL 2 arg (F.map (·.1)) (R.map (·.1)))) := by
 obtain ⟨j0, hj0, hy0, hy1, hy2⟩ := info_parts infoLists
 obtain ⟨ha1, ha2⟩ := ha
 have hfi : (nf : Int) ≤ 100000 := by omega
 have hri : (nr : Int) ≤ 100000 := by omega
 subst hnf
 subst hnr
 have HP0 := Lib.hid hp
 have HNF := Lib.hid (show F.length = F.length from rfl)
 have HNR := Lib.hid (show R.length = R.length from rfl)
 have HB := Lib.hid hb
 have HSF := Lib.hid hsF
 have HSR := Lib.hid hsR
 have HSZ := Lib.hid (add_size w)
 have HPX := Lib.hid (fun o1 o2 o3 => add_pile HP0.out o1 o2 o3)
 have HBX := Lib.hid (fun o1 o2 => add_box w o1 o2)
 have HF0 := Lib.hid hf
 have HR0 := Lib.hid hr
 clear hp hb hsF hsR hf hr
 have HLF := Lib.hid (show F.length ≤ 4194304 by have := HF0.out; omega)
 have HAP := Lib.hid (show Off (.slice Ar R.length cr) w.heap.size (w.heap.size + 2) (w.heap.size + 2) ∧ some (w.heap.size + 2) ≠ (Value.slice Af F.length cf).ownBlock from ⟨⟨fun e => by have := (HP0.out.2.1.1.lt _ e.symm).2; omega, Or.inr (Nat.le_refl _)⟩, fun e => by have := (HP0.out.1.1.lt _ e.symm).2; omega⟩)
 have HAB := Lib.hid (show Off (.slice Ar R.length cr) w.heap.size (w.heap.size + 2) (w.heap.size + 3) ∧ some (w.heap.size + 3) ≠ (Value.slice Af F.length cf).ownBlock from ⟨⟨fun e => by have := (HP0.out.2.1.1.lt _ e.symm).2; omega, Or.inr (by omega)⟩, fun e => by have := (HP0.out.1.1.lt _ e.symm).2; omega⟩)
 have HN0 := Lib.hid (show some w.heap.size ≠ (Value.slice Af F.length cf).ownBlock from fun e => by have := (HP0.out.1.1.lt _ e.symm).2; omega)
 have HN1 := Lib.hid (show some (w.heap.size + 1) ≠ (Value.slice Af F.length cf).ownBlock from fun e => by have := (HP0.out.1.1.lt _ e.symm).2; omega)
 have HPD := Lib.hid (fun o1 o2 o3 o4 => add_pile4 HP0.out o1 o2 o3 o4)
 have HBD := Lib.hid (fun (o1 o2 o3 o4 : Obj) => show Below base w ((((w.alloc o1).alloc o2).alloc o3).alloc o4).drew from (((((Below.refl base w).alloc HB.out _).alloc (le_alloc HB.out) _).alloc (le_alloc (le_alloc HB.out)) _).alloc (le_alloc (le_alloc (le_alloc HB.out))) _).drew)
 rcases prop_cases arg ha1 with hm | hm | hm
 all_goals
  have HMD := Lib.hid hm
  have htm : arg.tmod 3 = arg % 3 := Int.tmod_eq_emod_of_nonneg ha1
  rw [hm] at htm
  have hi0 := fun W => name_at W 0 (by decide)
  have hi1 := fun W => name_at W 1 (by decide)
  have hi2 := fun W => name_at W 2 (by decide)
  simp only [List.getD_cons_zero, List.getD_cons_succ, Int.natCast_zero, Int.natCast_one] at hi0 hi1 hi2
  replace hi2 : ∀ W, (Instr.index 68 (.agg #[.string { data := #[112] }, .string { data := #[113] }, .string { data := #[114] }]) (.int .i64 2)).run Tryz.prog W = .ok (.string { data := #[114] }) W := hi2
  go_enter Tryz.func21, Tryz.ntmps21
  go_wp2_with fail
  go_region_law
   (first
    | (refine step_append_sls rfl (.tmp 31) (.tmp 38) 48 rfl base j0 _ Tryz.underlying48 hj0 hy0 hy1 hy2 rfl (.slice Af F.length cf) F (by rfl) (Off (.slice Ar R.length cr) w.heap.size (w.heap.size + 2)) (HPD.out _ _ _ _).1 (some ⟨w.heap.size + 3, 0, none⟩) 1 1 [([propNd arg], some ⟨w.heap.size + 2, 0, none⟩, 1)] rfl (by rfl) (box_lists rfl (add_blk3 w _ _ _ _) HAB.out (one_list (add_prop w arg _ _ _ (by first | exact prop0 HMD.out | exact prop1 HMD.out | exact prop2 HMD.out)) rfl (prop_small arg) HAP.out)) (by have := HLF.out; have := HF0.out; omega) (by simp; have := HB.out; omega) ?_; intro v3 w3 hown3 hgr3 hat3; obtain ⟨A3, c3, e3, -, -, -, -⟩ := hown3.slice; subst e3; have k0 := blk_grown hgr3 (blk_drew (add_blk0 w _ _ _ _)) HN0.out; have k1 := blk_grown hgr3 (blk_drew (add_blk1 w _ _ _ _)) HN1.out; have k00 := blk_cell k0 0 _ rfl; have k01 := blk_cell k0 1 _ rfl; have f00 := blk_frozen k0 0; have k10 := blk_cell k1 0 _ rfl; have k11 := blk_cell k1 1 _ rfl; have f10 := blk_frozen k1 0; have f11 := blk_frozen k1 1; have HP3 := Lib.hid ((HPD.out _ _ _ _).grow hown3 hgr3 hat3 (by simp)); have HB3 := Lib.hid ((HBD.out _ _ _ _).grown hgr3 (by simp; have := HB.out; omega) (fun z hz => (HP0.out.1.1.lt z hz).1)); clear k0 k1 hown3 hgr3 hat3)
    )
  all_goals go_wp2
  all_goals
   have he := end_cells (k := 0) (fv := .slice A3 (F.length + 1) c3) (rv := .slice Ar R.length cr) (x := .slice A3 (F.length + 1) c3) k10 k11
   unfold endW at he
   refine bodyPost_ret (v := .agg #[.slice A3 (F.length + 1) c3, .slice Ar R.length cr]) (by simp [results, Tryz.results21, go_sem, he]) rfl ⟨_, _, F ++ [([propNd arg], some ⟨w.heap.size + 2, 0, none⟩, 1)], R, rfl, ?_, ?_, below_end HB3.out HB.out⟩
   ·have := HP3.out
    rw [List.length_append] at this
    exact pile_end (k := 0) (x := .slice A3 (F.length + 1) c3) this
   ·unfold addL
    rw [if_neg (by decide), if_pos (by decide), List.map_append]
    rfl
set_option maxHeartbeats 4000000 in
set_option maxRecDepth 100000 in
theorem add_3 (arg : Int) (Af Ar : Option Addr) (nf cf nr cr base : Nat) (F R : List SL) (w : World) (ha : 0 ≤ arg ∧ arg ≤ 100000) (hnf : F.length = nf) (hnr : R.length = nr) (hf : nf ≤ 100000) (hr : nr ≤ 100000) (hb : base ≤ w.heap.size) (hsF : Small F) (hsR : Small R)
  (hp : PileX 0 0 w base (.slice Af nf cf) (.slice Ar nr cr) F R) :
  Calls Tryz.prog 21 #[.agg #[.slice Af nf cf, .slice Ar nr cr], .int .i64 3, .int .i64 arg] w (GotPile w base (addL 3 arg (F.map (·.1)) (R.map (·.1)))) := by
 obtain ⟨j0, hj0, hy0, hy1, hy2⟩ := info_parts infoLists
 obtain ⟨ha1, ha2⟩ := ha
 have hfi : (nf : Int) ≤ 100000 := by omega
 have hri : (nr : Int) ≤ 100000 := by omega
 subst hnf
 subst hnr
 have HP0 := Lib.hid hp
 have HNF := Lib.hid (show F.length = F.length from rfl)
 have HNR := Lib.hid (show R.length = R.length from rfl)
 have HB := Lib.hid hb
 have HSF := Lib.hid hsF
 have HSR := Lib.hid hsR
 have HSZ := Lib.hid (add_size w)
 have HPX := Lib.hid (fun o1 o2 o3 => add_pile HP0.out o1 o2 o3)
 have HBX := Lib.hid (fun o1 o2 => add_box w o1 o2)
 have HF0 := Lib.hid hf
 have HR0 := Lib.hid hr
 clear hp hb hsF hsR hf hr
 have HLF := Lib.hid (show F.length ≤ 4194304 by have := HF0.out; omega)
 have HAP := Lib.hid (show Off (.slice Ar R.length cr) w.heap.size (w.heap.size + 2) (w.heap.size + 2) ∧ some (w.heap.size + 2) ≠ (Value.slice Af F.length cf).ownBlock from ⟨⟨fun e => by have := (HP0.out.2.1.1.lt _ e.symm).2; omega, Or.inr (Nat.le_refl _)⟩, fun e => by have := (HP0.out.1.1.lt _ e.symm).2; omega⟩)
 have HAB := Lib.hid (show Off (.slice Ar R.length cr) w.heap.size (w.heap.size + 2) (w.heap.size + 3) ∧ some (w.heap.size + 3) ≠ (Value.slice Af F.length cf).ownBlock from ⟨⟨fun e => by have := (HP0.out.2.1.1.lt _ e.symm).2; omega, Or.inr (by omega)⟩, fun e => by have := (HP0.out.1.1.lt _ e.symm).2; omega⟩)
 have HN0 := Lib.hid (show some w.heap.size ≠ (Value.slice Af F.length cf).ownBlock from fun e => by have := (HP0.out.1.1.lt _ e.symm).2; omega)
 have HN1 := Lib.hid (show some (w.heap.size + 1) ≠ (Value.slice Af F.length cf).ownBlock from fun e => by have := (HP0.out.1.1.lt _ e.symm).2; omega)
 have HPD := Lib.hid (fun o1 o2 o3 o4 => add_pile4 HP0.out o1 o2 o3 o4)
 have HBD := Lib.hid (fun (o1 o2 o3 o4 : Obj) => show Below base w ((((w.alloc o1).alloc o2).alloc o3).alloc o4).drew from (((((Below.refl base w).alloc HB.out _).alloc (le_alloc HB.out) _).alloc (le_alloc (le_alloc HB.out)) _).alloc (le_alloc (le_alloc (le_alloc HB.out))) _).drew)
 rcases prop_cases arg ha1 with hm | hm | hm
 all_goals
  have HMD := Lib.hid hm
  have htm : arg.tmod 3 = arg % 3 := Int.tmod_eq_emod_of_nonneg ha1
  rw [hm] at htm
  have hi0 := fun W => name_at W 0 (by decide)
  have hi1 := fun W => name_at W 1 (by decide)
  have hi2 := fun W => name_at W 2 (by decide)
  simp only [List.getD_cons_zero, List.getD_cons_succ, Int.natCast_zero, Int.natCast_one] at hi0 hi1 hi2
  replace hi2 : ∀ W, (Instr.index 68 (.agg #[.string { data := #[112] }, .string { data := #[113] }, .string { data := #[114] }]) (.int .i64 2)).run Tryz.prog W = .ok (.string { data := #[114] }) W := hi2
  go_enter Tryz.func21, Tryz.ntmps21
  go_wp2_with fail
  go_region_law
   (first
    | (refine step_append_sls rfl (.tmp 31) (.tmp 38) 48 rfl base j0 _ Tryz.underlying48 hj0 hy0 hy1 hy2 rfl (.slice Af F.length cf) F (by rfl) (Off (.slice Ar R.length cr) w.heap.size (w.heap.size + 2)) (HPD.out _ _ _ _).1 (some ⟨w.heap.size + 3, 0, none⟩) 1 1 [([propNd arg], some ⟨w.heap.size + 2, 0, none⟩, 1)] rfl (by rfl) (box_lists rfl (add_blk3 w _ _ _ _) HAB.out (one_list (add_prop w arg _ _ _ (by first | exact prop0 HMD.out | exact prop1 HMD.out | exact prop2 HMD.out)) rfl (prop_small arg) HAP.out)) (by have := HLF.out; have := HF0.out; omega) (by simp; have := HB.out; omega) ?_; intro v3 w3 hown3 hgr3 hat3; obtain ⟨A3, c3, e3, -, -, -, -⟩ := hown3.slice; subst e3; have k0 := blk_grown hgr3 (blk_drew (add_blk0 w _ _ _ _)) HN0.out; have k1 := blk_grown hgr3 (blk_drew (add_blk1 w _ _ _ _)) HN1.out; have k00 := blk_cell k0 0 _ rfl; have k01 := blk_cell k0 1 _ rfl; have f00 := blk_frozen k0 0; have k10 := blk_cell k1 0 _ rfl; have k11 := blk_cell k1 1 _ rfl; have f10 := blk_frozen k1 0; have f11 := blk_frozen k1 1; have HP3 := Lib.hid ((HPD.out _ _ _ _).grow hown3 hgr3 hat3 (by simp)); have HB3 := Lib.hid ((HBD.out _ _ _ _).grown hgr3 (by simp; have := HB.out; omega) (fun z hz => (HP0.out.1.1.lt z hz).1)); clear k0 k1 hown3 hgr3 hat3)
    )
  all_goals go_wp2
  all_goals
   have he := end_cells (k := 0) (fv := .slice A3 (F.length + 1) c3) (rv := .slice Ar R.length cr) (x := .slice A3 (F.length + 1) c3) k10 k11
   unfold endW at he
   refine bodyPost_ret (v := .agg #[.slice A3 (F.length + 1) c3, .slice Ar R.length cr]) (by simp [results, Tryz.results21, go_sem, he]) rfl ⟨_, _, F ++ [([propNd arg], some ⟨w.heap.size + 2, 0, none⟩, 1)], R, rfl, ?_, ?_, below_end HB3.out HB.out⟩
   ·have := HP3.out
    rw [List.length_append] at this
    exact pile_end (k := 0) (x := .slice A3 (F.length + 1) c3) this
   ·unfold addL
    rw [if_neg (by decide), if_pos (by decide), List.map_append]
    rfl
end Go.Proofs.YtdbgaccnejffpaaGreatDoor.Tree

namespace Go.Proofs.YtdbgaccnejffpaaGreatDoor.Tree
open Go.RowKit Go.Proofs.YtdbgaccnejffpaaGreatDoor.Ints
attribute [local go_sem ↓] Go.wp_at_zero Go.wp_at_succ
theorem undrewL {B : Nat} {a w' : World} (h : Below B a.drew w') : Below B a w' := ⟨h.os, h.tape, h.output, h.size, h.block⟩
def endW2 (w3 : World) (g k j : Nat) (x y fv rv : Value) : World := (((w3.setCell ⟨g, k, none⟩ x).setCell ⟨g, j, none⟩ y).setCell ⟨g + 1, 0, none⟩ fv).setCell ⟨g + 1, 1, none⟩ rv
theorem end_cells2 {w3 : World} {g k j : Nat} {x y fv rv u0 u1 : Value} (h0 : w3.cell? ⟨g + 1, 0, none⟩ = some u0) (h1 : w3.cell? ⟨g + 1, 1, none⟩ = some u1) :
  (endW2 w3 g k j x y fv rv).cell? ⟨g + 1, 0, none⟩ = some fv ∧ (endW2 w3 g k j x y fv rv).cell? ⟨g + 1, 1, none⟩ = some rv :=
 end_cells (w3 := w3.setCell ⟨g, k, none⟩ x) (g := g) (k := j) ((World.cell?_setCell_far _ _ _ _ (by simp)).trans h0) ((World.cell?_setCell_far _ _ _ _ (by simp)).trans h1)
theorem pile_end2 {w3 : World} {g k j base : Nat} {fv rv x y : Value} {F R : List SL} (h : PileX g (g + 2) w3 base fv rv F R) : PileX 0 0 (endW2 w3 g k j x y fv rv) base fv rv F R :=
 pile_end (k := j) (x := y) (h.setCell ⟨g, k, none⟩ x (by simp))
theorem below_end2 {w w3 : World} {g k j base : Nat} {fv rv x y : Value} (h : Below base w w3) (hg : base ≤ g) : Below base w (endW2 w3 g k j x y fv rv) :=
 below_end (k := j) (h.setCell (p := ⟨g, k, none⟩) hg _) hg
theorem last_list {base : Nat} {Af : Option Addr} {p cf : Nat} {rv : Value} {F R : List SL} {w : World} (hp : PileX 0 0 w base (.slice Af (p + 1) cf) rv F R) (hl : F.length = p + 1) :
  ∃ (l : List Nd) (K : Option Addr) (cK : Nat), F[p]? = some (l, K, cK) ∧ (∃ g, Af = some ⟨g, 0, none⟩ ∧ w.cell? ⟨g, p, none⟩ = some (.slice K l.length cK)) ∧ Nodes (fun b => (some b ≠ (Value.slice Af (p + 1) cf).ownBlock ∧ some b ≠ rv.ownBlock) ∧ b < w.heap.size) w K l := by
 obtain ⟨s, hs⟩ : ∃ s, F[p]? = some s := ⟨_, List.getElem?_eq_getElem (by omega)⟩
 obtain ⟨l, K, cK⟩ := s
 obtain ⟨g, e, hc⟩ := (show OwnLists (Off rv 0 0) w base (.slice Af F.length cf) F by rw [hl]; exact hp.1).cell (by omega)
 refine ⟨l, K, cK, hs, ⟨g, e, hc p _ hs⟩, ?_⟩
 exact ((hp.1.2 _ (List.mem_of_getElem? hs)).1).mono fun b hb h => ⟨⟨h.2, h.1.1⟩, hb⟩
theorem take_blocks {w : World} {base : Nat} {fv rv : Value} {F R : List SL} (hp : PileX 0 0 w base fv rv F R) {q : Nat} (h : From (fun b => (some b ≠ fv.ownBlock ∧ some b ≠ rv.ownBlock) ∧ b < w.heap.size) (w.heap.size + 2) q) : Off fv w.heap.size (w.heap.size + 2) q ∧ some q ≠ rv.ownBlock := by
 rcases h with ⟨⟨h1, h2⟩, h3⟩ | h
 ·exact ⟨⟨h1, Or.inl h3⟩, h2⟩
 ·exact ⟨⟨fun e => by have := (hp.1.1.lt q e.symm).2; omega, Or.inr h⟩, fun e => by have := (hp.2.1.1.lt q e.symm).2; omega⟩
theorem own_not {w : World} {base : Nat} {e : TypeId} {size : Nat} {v : Value} {n : Nat} {xs : List Value} (h : w.ownsRow base e size v n xs) {q : Nat} (hq : w.heap.size ≤ q) : some q ≠ v.ownBlock := fun e => by
 have := (h.lt q e.symm).2; omega
set_option maxHeartbeats 8000000 in
set_option maxRecDepth 100000 in
theorem add_20 (arg : Int) (Af Ar : Option Addr) (nf cf nr cr base : Nat) (F R : List SL) (w : World) (_ha : 0 ≤ arg ∧ arg ≤ 100000) (hnf : F.length = nf) (hnr : R.length = nr) (hf : nf ≤ 100000) (hr : nr ≤ 100000) (hb : base ≤ w.heap.size) (hsF : Small F) (_hsR : Small R)
  (hp : PileX 0 0 w base (.slice Af nf cf) (.slice Ar nr cr) F R) :
  Calls Tryz.prog 21 #[.agg #[.slice Af nf cf, .slice Ar nr cr], .int .i64 20, .int .i64 arg] w (GotPile w base (addL 20 arg (F.map (·.1)) (R.map (·.1)))) := by
 obtain ⟨j0, hj0, hy0, hy1, hy2⟩ := info_parts infoLists
 have hfi : (nf : Int) ≤ 100000 := by omega
 have hri : (nr : Int) ≤ 100000 := by omega
 have HP0 := Lib.hid hp
 have HNF := Lib.hid hnf
 have HNR := Lib.hid hnr
 have HB := Lib.hid hb
 have HSF := Lib.hid hsF
 have HRL := Lib.hid (show R.length + 1 ≤ 4194304 by omega)
 obtain ⟨_, _, eL, hLc, -, -, -⟩ := HP0.out.1.slice
 have hLc' : nf ≤ cf := by injection eL with e1 e2 e3; omega
 clear hp hb hsF _hsR hf hr hnf hnr _ha eL hLc
 have hl20 : ∀ (A B : Ls), addL 20 arg A B = (if A.length < 1 then (A, B) else (A.take (A.length - 1), B ++ [overL (kindNd 19) (A.getD (A.length - 1) []) []])) := fun A B => by
  unfold addL
  rw [if_neg (by decide), if_neg (by decide), if_neg (by decide), if_neg (by decide), if_neg (by decide), if_neg (by decide), if_neg (by decide), if_neg (by decide), if_pos (by decide)]
 have HL20 := Lib.hid hl20
 clear hl20
 cases nf with
 | zero =>
  go_enter Tryz.func21, Tryz.ntmps21
  go_wp2
  refine bodyPost_ret (v := .agg #[.slice Af 0 cf, .slice Ar nr cr]) (by simp [results, Tryz.results21, go_sem]) rfl ⟨_, _, F, R, rfl, (add_pile2 HP0.out (add_two w _ _)).mono (fun _ _ _ => Or.inr (Nat.zero_le _)), ?_, (add_two w _ _).mono HB.out⟩
  rw [HL20.out, if_pos (by rw [List.length_map, HNF.out]; omega)]
 | succ p =>
  obtain ⟨l, K, cK, hFp, ⟨g, eA, hcl⟩, hN⟩ := last_list HP0.out HNF.out
  subst eA
  obtain ⟨m, hm⟩ : ∃ m, l.length = m := ⟨_, rfl⟩
  rw [hm] at hcl
  have hls := (HSF.out _ (List.mem_of_getElem? hFp)).1
  simp only at hls
  have HOV := Lib.hid (fun W (hb : Below w.heap.size w W) => refOver (kindNd 19) none 0 K none m 0 cK 0 l [] _ W hm rfl (by omega) (by omega) (nodeOk_bare W rfl (kind_small _ (by omega))) (hN.below hb) (Nodes.nil _ _ _) movable_nil)
  have HFP := Lib.hid hFp
  have HM := Lib.hid hm
  have HCL := Lib.hid (fun W (hb : Below w.heap.size w W) => below_cell hb hcl)
  have hp1 : (p : Int) ≤ (cf : Int) := by omega
  have hp2 : (p : Int) < (p : Int) + 1 := by omega
  have hp0 : (0 : Int) ≤ (p : Int) := by omega
  clear hFp hN hm hls hcl
  go_enter Tryz.func21, Tryz.ntmps21
  go_wp2_with fail
  have hk0 := blk_alloc (o' := .cells #[.slice none 0 0, .slice none 0 0] 50) (new_at w (.cells #[.slice (some ⟨g, 0, none⟩) (p + 1) cf, .slice Ar nr cr] 50))
  have hk1 := new_at2 w (.cells #[.slice (some ⟨g, 0, none⟩) (p + 1) cf, .slice Ar nr cr] 50) (.cells #[.slice none 0 0, .slice none 0 0] 50)
  have hb1 := add_two w (.cells #[.slice (some ⟨g, 0, none⟩) (p + 1) cf, .slice Ar nr cr] 50) (.cells #[.slice none 0 0, .slice none 0 0] 50)
  have hz1 : ((w.alloc (.cells #[.slice (some ⟨g, 0, none⟩) (p + 1) cf, .slice Ar nr cr] 50)).alloc (.cells #[.slice none 0 0, .slice none 0 0] 50)).heap.size = w.heap.size + 2 := by simp
  generalize (w.alloc (.cells #[.slice (some ⟨g, 0, none⟩) (p + 1) cf, .slice Ar nr cr] 50)).alloc (.cells #[.slice none 0 0, .slice none 0 0] 50) = W1 at hk0 hk1 hb1 hz1 ⊢
  have x0 := blk_cell hk0 0 _ rfl
  have x1 := blk_cell hk0 1 _ rfl
  have x2 := HCL.out W1 hb1
  have HK0 := Lib.hid hk0
  have HK1 := Lib.hid hk1
  have HB1 := Lib.hid hb1
  have HZ1 := Lib.hid hz1
  have HN0 := Lib.hid (own_not HP0.out.2.1.1 (Nat.le_refl w.heap.size))
  have HN1 := Lib.hid (own_not HP0.out.2.1.1 (Nat.le_succ w.heap.size))
  clear hk0 hk1 hb1 hz1
  go_region_law
   (first
    | (refine step_append_sls rfl (.tmp 137) (.tmp 145) 48 rfl base j0 _ Tryz.underlying48 hj0 hy0 hy1 hy2 rfl (.slice Ar nr cr) R (by rfl) (Off (.slice (some ⟨g, 0, none⟩) (p + 1) cf) w.heap.size (w.heap.size + 2)) (HP2.out.swap.1.below ((Below.refl _ _).alloc (Nat.le_refl _) _)) (some ⟨w2.heap.size, 0, none⟩) 1 1 [(overL (kindNd 19) l [], A5, c5)] rfl (by rfl) (box_lists rfl (new_at _ _) HS2.out ⟨HX2.out.below ((Below.refl _ _).alloc (Nat.le_refl _) _), HC5.out⟩) HRL.out (le_alloc HBZ.out) ?_; intro v3 w3 hown3 hgr3 hat3; obtain ⟨A3, c3, e3, -, -, -, -⟩ := hown3.slice; subst e3; have k0 := blk_grown hgr3 (blk_alloc HQ0.out) HN0.out; have k1 := blk_grown hgr3 (blk_alloc HQ1.out) HN1.out; have k00 := blk_cell k0 0 _ rfl; have k01 := blk_cell k0 1 _ rfl; have f00 := blk_frozen k0 0; have f01 := blk_frozen k0 1; have k10 := blk_cell k1 0 _ rfl; have k11 := blk_cell k1 1 _ rfl; have f10 := blk_frozen k1 0; have f11 := blk_frozen k1 1; have HP3 := Lib.hid ((HP2.out.below ((Below.refl _ _).alloc (Nat.le_refl _) _)).swap.grow hown3 hgr3 hat3 (le_alloc HZ2.out)); have HB3 := Lib.hid ((HB2.out.alloc HBZ.out _).grown hgr3 (le_alloc HBZ.out) (fun z hz => (HP0.out.2.1.1.lt z hz).1)); clear k0 k1 hown3 hgr3 hat3)
    | (go_simp; go_wp2_with (go_at_call 18; refine (HOV.out _ HB1.out.drew).mono ?_; rintro e w2 ⟨A5, c5, rfl, hX, hc5, hm5, hb2⟩; have hb2' : Below W1.heap.size W1 w2 := undrewL hb2; have q0 := blk_below hb2' HK0.out; have q1 := blk_below hb2' HK1.out; have y1 := blk_cell q0 1 _ rfl; have y2 := fun o => blk_cell (blk_alloc (o' := o) q0) 1 _ rfl; have HQ0 := Lib.hid q0; have HQ1 := Lib.hid q1; have hbw := HB1.out.trans (hb2'.mono HB1.out.size); have HP2 := Lib.hid (add_pile2 HP0.out hbw); have HB2 := Lib.hid (hbw.mono HB.out); have HBZ := Lib.hid (Nat.le_trans HB.out hbw.size); have HZ2 := Lib.hid (show w.heap.size + 2 ≤ w2.heap.size by rw [← HZ1.out]; exact hb2'.size); have HX2 := Lib.hid (hX.mono (S' := fun q => Off (.slice (some ⟨g, 0, none⟩) (p + 1) cf) w.heap.size (w.heap.size + 2) q ∧ some q ≠ (Value.slice Ar nr cr).ownBlock) fun q _ hq => take_blocks HP0.out (by rw [← HZ1.out]; exact hq)); have HS2 := Lib.hid (take_blocks HP0.out (q := w2.heap.size) (Or.inr HZ2.out)); have HC5 := Lib.hid (And.intro hc5 hm5); clear hX hc5 hm5 hb2 hb2' q0 q1 hbw)))
  all_goals go_wp2
  all_goals
   have he := end_cells2 (k := 1) (j := 0) (x := .slice A3 (R.length + 1) c3) (y := .slice (some ⟨g, 0, none⟩) p cf) (fv := .slice (some ⟨g, 0, none⟩) p cf) (rv := .slice A3 (R.length + 1) c3) k10 k11
   unfold endW2 at he
   refine bodyPost_ret (v := .agg #[.slice (some ⟨g, 0, none⟩) p cf, .slice A3 (R.length + 1) c3]) (by simp [results, Tryz.results21, go_sem, he]) rfl ⟨_, _, F.take p, R ++ [(overL (kindNd 19) l [], A5, c5)], rfl, ?_, ?_, below_end2 HB3.out HB.out⟩
   ·have := HP3.out
    rw [List.length_append] at this
    exact pile_end2 (this.cut (k := p) (by rw [HNF.out]; omega)).swap
   ·rw [HL20.out, if_neg (by rw [List.length_map, HNF.out]; omega), List.length_map, HNF.out, Nat.add_sub_cancel, List.map_take, List.map_append, List.getD_eq_getElem?_getD, List.getElem?_map, HFP.out]
    rfl
end Go.Proofs.YtdbgaccnejffpaaGreatDoor.Tree
