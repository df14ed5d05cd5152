/-
  The walks of the law's pile.add: a name. By an AI agent.
-/
import Derived.Test.YtcpmcgbjmncalaaGPathsUnion43
import Derived.Deep.RegionLaw
import Derived.Deep.DrawnRows
namespace Go.Proofs.Ytcpmcgbjmncalaa.Tree
open Go.RowKit Go.Proofs.Ytcpmcgbjmncalaa.Ints
attribute [local go_sem ↓] Go.wp_at_zero Go.wp_at_succ

theorem add_pile4 {base : Nat} {fv rv : Value} {F R : List SL} {w : World} (hp : PileX 0 0 w base fv rv F R) (o1 o2 o3 o4 : Obj) : PileX w.heap.size (w.heap.size + 2) ((((w.alloc o1).alloc o2).alloc o3).alloc o4).drew base fv rv F R :=
  ((add_pile hp o1 o2 o3).below ((Below.refl _ _).alloc (Nat.le_refl _) o4).drew)
theorem add_blk3 (w : World) (o1 o2 o3 o4 : Obj) : ((((w.alloc o1).alloc o2).alloc o3).alloc o4).drew.heap[w.heap.size + 3]? = some o4 := by
  have h : ((w.alloc o1).alloc o2).heap.size + 1 = w.heap.size + 3 := by simp
  have := new_at2 ((w.alloc o1).alloc o2) o3 o4
  rw [h] at this
  exact blk_drew this
set_option maxRecDepth 100000 in
theorem name_at (w : World) : ∀ k : Nat, k < 3 → (Instr.index 95 (.agg #[.string { data := #[112] }, .string { data := #[113] }, .string { data := #[114] }]) (.int .i64 (k : Int))).run Try.prog w = .ok (.string ⟨([[112], [113], [114]].getD k []).toArray⟩) w := by
  intro k hk
  match k, hk with
  | 0, _ | 1, _ | 2, _ => rfl
theorem add_prop (w : World) (arg : Int) (o1 o2 o4 : Obj) {s : ByteArray} (h : (propNd arg).name = s) : BoxAt ((((w.alloc o1).alloc o2).alloc (.cells #[.int .i64 3, .string s, .int .i64 0, .int .i64 0, .slice none 0 0] 42)).alloc o4).drew (w.heap.size + 2) #[.int .i64 (propNd arg).kind, .string (propNd arg).name, .int .i64 (propNd arg).lo, .int .i64 (propNd arg).hi, .slice none 0 0] := by
  have h1 := add_box w o1 o2 #[.int .i64 3, .string s, .int .i64 0, .int .i64 0, .slice none 0 0]
  rw [h]
  exact blk_drew (blk_alloc h1)
theorem prop0 {n : Int} (h : n % 3 = 0) : (propNd n).name = { data := #[112] } := by unfold propNd; rw [if_pos h]
theorem prop1 {n : Int} (h : n % 3 = 1) : (propNd n).name = { data := #[113] } := by unfold propNd; rw [if_neg (by omega), if_pos h]
theorem prop2 {n : Int} (h : n % 3 = 2) : (propNd n).name = { data := #[114] } := by unfold propNd; rw [if_neg (by omega), if_neg (by omega)]
theorem prop_cases (n : Int) (_h : 0 ≤ n) : n % 3 = 0 ∨ n % 3 = 1 ∨ n % 3 = 2 := by omega

set_option maxHeartbeats 4000000 in
set_option maxRecDepth 100000 in
theorem add_1 (arg : Int) (Af Ar : Option Addr) (nf cf nr cr base : Nat) (F R : List SL) (w : World) (ha : 0 ≤ arg ∧ arg ≤ 100000) (hnf : F.length = nf) (hnr : R.length = nr) (hf : nf ≤ 100000) (hr : nr ≤ 100000) (hb : base ≤ w.heap.size) (hsF : Small F) (hsR : Small R)
    (hp : PileX 0 0 w base (.slice Af nf cf) (.slice Ar nr cr) F R) :
    Calls Try.prog 40 #[.agg #[.slice Af nf cf, .slice Ar nr cr], .int .i64 1, .int .i64 arg] w (GotPile w base (addL 1 arg (F.map (·.1)) (R.map (·.1)))) := by
  obtain ⟨j0, hj0, hy0, hy1, hy2⟩ := info_parts infoLists
  obtain ⟨ha1, ha2⟩ := ha
  have hfi : (nf : Int) ≤ 100000 := by omega
  have hri : (nr : Int) ≤ 100000 := by omega
  subst hnf
  subst hnr
  have HP0 := Lib.hid hp
  have HNF := Lib.hid (show F.length = F.length from rfl)
  have HNR := Lib.hid (show R.length = R.length from rfl)
  have HB := Lib.hid hb
  have HSF := Lib.hid hsF
  have HSR := Lib.hid hsR
  have HSZ := Lib.hid (add_size w)
  have HPX := Lib.hid (fun o1 o2 o3 => add_pile HP0.out o1 o2 o3)
  have HBX := Lib.hid (fun o1 o2 => add_box w o1 o2)
  have HF0 := Lib.hid hf
  have HR0 := Lib.hid hr
  clear hp hb hsF hsR hf hr
  have HLF := Lib.hid (show F.length ≤ 4194304 by have := HF0.out; omega)
  have HAP := Lib.hid (show Off (.slice Ar R.length cr) w.heap.size (w.heap.size + 2) (w.heap.size + 2) ∧ some (w.heap.size + 2) ≠ (Value.slice Af F.length cf).ownBlock from ⟨⟨fun e => by have := (HP0.out.2.1.1.lt _ e.symm).2; omega, Or.inr (Nat.le_refl _)⟩, fun e => by have := (HP0.out.1.1.lt _ e.symm).2; omega⟩)
  have HAB := Lib.hid (show Off (.slice Ar R.length cr) w.heap.size (w.heap.size + 2) (w.heap.size + 3) ∧ some (w.heap.size + 3) ≠ (Value.slice Af F.length cf).ownBlock from ⟨⟨fun e => by have := (HP0.out.2.1.1.lt _ e.symm).2; omega, Or.inr (by omega)⟩, fun e => by have := (HP0.out.1.1.lt _ e.symm).2; omega⟩)
  have HN0 := Lib.hid (show some w.heap.size ≠ (Value.slice Af F.length cf).ownBlock from fun e => by have := (HP0.out.1.1.lt _ e.symm).2; omega)
  have HN1 := Lib.hid (show some (w.heap.size + 1) ≠ (Value.slice Af F.length cf).ownBlock from fun e => by have := (HP0.out.1.1.lt _ e.symm).2; omega)
  have HPD := Lib.hid (fun o1 o2 o3 o4 => add_pile4 HP0.out o1 o2 o3 o4)
  have HBD := Lib.hid (fun (o1 o2 o3 o4 : Obj) => show Below base w ((((w.alloc o1).alloc o2).alloc o3).alloc o4).drew from (((((Below.refl base w).alloc HB.out _).alloc (le_alloc HB.out) _).alloc (le_alloc (le_alloc HB.out)) _).alloc (le_alloc (le_alloc (le_alloc HB.out))) _).drew)
  rcases prop_cases arg ha1 with hm | hm | hm
  all_goals
    have HMD := Lib.hid hm
    have htm : arg.tmod 3 = arg % 3 := Int.tmod_eq_emod_of_nonneg ha1
    rw [hm] at htm
    have hi0 := fun W => name_at W 0 (by decide)
    have hi1 := fun W => name_at W 1 (by decide)
    have hi2 := fun W => name_at W 2 (by decide)
    simp only [List.getD_cons_zero, List.getD_cons_succ, Int.natCast_zero, Int.natCast_one] at hi0 hi1 hi2
    replace hi2 : ∀ W, (Instr.index 95 (.agg #[.string { data := #[112] }, .string { data := #[113] }, .string { data := #[114] }]) (.int .i64 2)).run Try.prog W = .ok (.string { data := #[114] }) W := hi2
    go_enter Try.func40, Try.ntmps40
    go_wp2_with fail
    go_region_law
      (first
        | (refine step_append_sls rfl (.tmp 31) (.tmp 38) 48 rfl base j0 _ Try.underlying48 hj0 hy0 hy1 hy2 rfl (.slice Af F.length cf) F (by rfl) (Off (.slice Ar R.length cr) w.heap.size (w.heap.size + 2)) (HPD.out _ _ _ _).1 (some ⟨w.heap.size + 3, 0, none⟩) 1 1 [([propNd arg], some ⟨w.heap.size + 2, 0, none⟩, 1)] rfl (by rfl) (box_lists rfl (add_blk3 w _ _ _ _) HAB.out (one_list (add_prop w arg _ _ _ (by first | exact prop0 HMD.out | exact prop1 HMD.out | exact prop2 HMD.out)) rfl (prop_small arg) HAP.out)) (by have := HLF.out; have := HF0.out; omega) (by simp; have := HB.out; omega) ?_; intro v3 w3 hown3 hgr3 hat3; obtain ⟨A3, c3, e3, -, -, -, -⟩ := hown3.slice; subst e3; have k0 := blk_grown hgr3 (blk_drew (add_blk0 w _ _ _ _)) HN0.out; have k1 := blk_grown hgr3 (blk_drew (add_blk1 w _ _ _ _)) HN1.out; have k00 := blk_cell k0 0 _ rfl; have k01 := blk_cell k0 1 _ rfl; have f00 := blk_frozen k0 0; have k10 := blk_cell k1 0 _ rfl; have k11 := blk_cell k1 1 _ rfl; have f10 := blk_frozen k1 0; have f11 := blk_frozen k1 1; have HP3 := Lib.hid ((HPD.out _ _ _ _).grow hown3 hgr3 hat3 (by simp)); have HB3 := Lib.hid ((HBD.out _ _ _ _).grown hgr3 (by simp; have := HB.out; omega) (fun z hz => (HP0.out.1.1.lt z hz).1)); clear k0 k1 hown3 hgr3 hat3)
        )
    all_goals go_wp2
    all_goals
      have he := end_cells (k := 0) (fv := .slice A3 (F.length + 1) c3) (rv := .slice Ar R.length cr) (x := .slice A3 (F.length + 1) c3) k10 k11
      unfold endW at he
      refine bodyPost_ret (v := .agg #[.slice A3 (F.length + 1) c3, .slice Ar R.length cr]) (by simp [results, Try.results40, go_sem, he]) rfl ⟨_, _, F ++ [([propNd arg], some ⟨w.heap.size + 2, 0, none⟩, 1)], R, rfl, ?_, ?_, below_end HB3.out HB.out⟩
      · have := HP3.out
        rw [List.length_append] at this
        exact pile_end (k := 0) (x := .slice A3 (F.length + 1) c3) this
      · unfold addL
        rw [if_neg (by decide), if_pos (by decide), List.map_append]
        rfl

set_option maxHeartbeats 4000000 in
set_option maxRecDepth 100000 in
theorem add_2 (arg : Int) (Af Ar : Option Addr) (nf cf nr cr base : Nat) (F R : List SL) (w : World) (ha : 0 ≤ arg ∧ arg ≤ 100000) (hnf : F.length = nf) (hnr : R.length = nr) (hf : nf ≤ 100000) (hr : nr ≤ 100000) (hb : base ≤ w.heap.size) (hsF : Small F) (hsR : Small R)
    (hp : PileX 0 0 w base (.slice Af nf cf) (.slice Ar nr cr) F R) :
    Calls Try.prog 40 #[.agg #[.slice Af nf cf, .slice Ar nr cr], .int .i64 2, .int .i64 arg] w (GotPile w base (addL 2 arg (F.map (·.1)) (R.map (·.1)))) := by
  obtain ⟨j0, hj0, hy0, hy1, hy2⟩ := info_parts infoLists
  obtain ⟨ha1, ha2⟩ := ha
  have hfi : (nf : Int) ≤ 100000 := by omega
  have hri : (nr : Int) ≤ 100000 := by omega
  subst hnf
  subst hnr
  have HP0 := Lib.hid hp
  have HNF := Lib.hid (show F.length = F.length from rfl)
  have HNR := Lib.hid (show R.length = R.length from rfl)
  have HB := Lib.hid hb
  have HSF := Lib.hid hsF
  have HSR := Lib.hid hsR
  have HSZ := Lib.hid (add_size w)
  have HPX := Lib.hid (fun o1 o2 o3 => add_pile HP0.out o1 o2 o3)
  have HBX := Lib.hid (fun o1 o2 => add_box w o1 o2)
  have HF0 := Lib.hid hf
  have HR0 := Lib.hid hr
  clear hp hb hsF hsR hf hr
  have HLF := Lib.hid (show F.length ≤ 4194304 by have := HF0.out; omega)
  have HAP := Lib.hid (show Off (.slice Ar R.length cr) w.heap.size (w.heap.size + 2) (w.heap.size + 2) ∧ some (w.heap.size + 2) ≠ (Value.slice Af F.length cf).ownBlock from ⟨⟨fun e => by have := (HP0.out.2.1.1.lt _ e.symm).2; omega, Or.inr (Nat.le_refl _)⟩, fun e => by have := (HP0.out.1.1.lt _ e.symm).2; omega⟩)
  have HAB := Lib.hid (show Off (.slice Ar R.length cr) w.heap.size (w.heap.size + 2) (w.heap.size + 3) ∧ some (w.heap.size + 3) ≠ (Value.slice Af F.length cf).ownBlock from ⟨⟨fun e => by have := (HP0.out.2.1.1.lt _ e.symm).2; omega, Or.inr (by omega)⟩, fun e => by have := (HP0.out.1.1.lt _ e.symm).2; omega⟩)
  have HN0 := Lib.hid (show some w.heap.size ≠ (Value.slice Af F.length cf).ownBlock from fun e => by have := (HP0.out.1.1.lt _ e.symm).2; omega)
  have HN1 := Lib.hid (show some (w.heap.size + 1) ≠ (Value.slice Af F.length cf).ownBlock from fun e => by have := (HP0.out.1.1.lt _ e.symm).2; omega)
  have HPD := Lib.hid (fun o1 o2 o3 o4 => add_pile4 HP0.out o1 o2 o3 o4)
  have HBD := Lib.hid (fun (o1 o2 o3 o4 : Obj) => show Below base w ((((w.alloc o1).alloc o2).alloc o3).alloc o4).drew from (((((Below.refl base w).alloc HB.out _).alloc (le_alloc HB.out) _).alloc (le_alloc (le_alloc HB.out)) _).alloc (le_alloc (le_alloc (le_alloc HB.out))) _).drew)
  rcases prop_cases arg ha1 with hm | hm | hm
  all_goals
    have HMD := Lib.hid hm
    have htm : arg.tmod 3 = arg % 3 := Int.tmod_eq_emod_of_nonneg ha1
    rw [hm] at htm
    have hi0 := fun W => name_at W 0 (by decide)
    have hi1 := fun W => name_at W 1 (by decide)
    have hi2 := fun W => name_at W 2 (by decide)
    simp only [List.getD_cons_zero, List.getD_cons_succ, Int.natCast_zero, Int.natCast_one] at hi0 hi1 hi2
    replace hi2 : ∀ W, (Instr.index 95 (.agg #[.string { data := #[112] }, .string { data := #[113] }, .string { data := #[114] }]) (.int .i64 2)).run Try.prog W = .ok (.string { data := #[114] }) W := hi2
    go_enter Try.func40, Try.ntmps40
    go_wp2_with fail
    go_region_law
      (first
        | (refine step_append_sls rfl (.tmp 31) (.tmp 38) 48 rfl base j0 _ Try.underlying48 hj0 hy0 hy1 hy2 rfl (.slice Af F.length cf) F (by rfl) (Off (.slice Ar R.length cr) w.heap.size (w.heap.size + 2)) (HPD.out _ _ _ _).1 (some ⟨w.heap.size + 3, 0, none⟩) 1 1 [([propNd arg], some ⟨w.heap.size + 2, 0, none⟩, 1)] rfl (by rfl) (box_lists rfl (add_blk3 w _ _ _ _) HAB.out (one_list (add_prop w arg _ _ _ (by first | exact prop0 HMD.out | exact prop1 HMD.out | exact prop2 HMD.out)) rfl (prop_small arg) HAP.out)) (by have := HLF.out; have := HF0.out; omega) (by simp; have := HB.out; omega) ?_; intro v3 w3 hown3 hgr3 hat3; obtain ⟨A3, c3, e3, -, -, -, -⟩ := hown3.slice; subst e3; have k0 := blk_grown hgr3 (blk_drew (add_blk0 w _ _ _ _)) HN0.out; have k1 := blk_grown hgr3 (blk_drew (add_blk1 w _ _ _ _)) HN1.out; have k00 := blk_cell k0 0 _ rfl; have k01 := blk_cell k0 1 _ rfl; have f00 := blk_frozen k0 0; have k10 := blk_cell k1 0 _ rfl; have k11 := blk_cell k1 1 _ rfl; have f10 := blk_frozen k1 0; have f11 := blk_frozen k1 1; have HP3 := Lib.hid ((HPD.out _ _ _ _).grow hown3 hgr3 hat3 (by simp)); have HB3 := Lib.hid ((HBD.out _ _ _ _).grown hgr3 (by simp; have := HB.out; omega) (fun z hz => (HP0.out.1.1.lt z hz).1)); clear k0 k1 hown3 hgr3 hat3)
        )
    all_goals go_wp2
    all_goals
      have he := end_cells (k := 0) (fv := .slice A3 (F.length + 1) c3) (rv := .slice Ar R.length cr) (x := .slice A3 (F.length + 1) c3) k10 k11
      unfold endW at he
      refine bodyPost_ret (v := .agg #[.slice A3 (F.length + 1) c3, .slice Ar R.length cr]) (by simp [results, Try.results40, go_sem, he]) rfl ⟨_, _, F ++ [([propNd arg], some ⟨w.heap.size + 2, 0, none⟩, 1)], R, rfl, ?_, ?_, below_end HB3.out HB.out⟩
      · have := HP3.out
        rw [List.length_append] at this
        exact pile_end (k := 0) (x := .slice A3 (F.length + 1) c3) this
      · unfold addL
        rw [if_neg (by decide), if_pos (by decide), List.map_append]
        rfl

set_option maxHeartbeats 4000000 in
set_option maxRecDepth 100000 in
theorem add_3 (arg : Int) (Af Ar : Option Addr) (nf cf nr cr base : Nat) (F R : List SL) (w : World) (ha : 0 ≤ arg ∧ arg ≤ 100000) (hnf : F.length = nf) (hnr : R.length = nr) (hf : nf ≤ 100000) (hr : nr ≤ 100000) (hb : base ≤ w.heap.size) (hsF : Small F) (hsR : Small R)
    (hp : PileX 0 0 w base (.slice Af nf cf) (.slice Ar nr cr) F R) :
    Calls Try.prog 40 #[.agg #[.slice Af nf cf, .slice Ar nr cr], .int .i64 3, .int .i64 arg] w (GotPile w base (addL 3 arg (F.map (·.1)) (R.map (·.1)))) := by
  obtain ⟨j0, hj0, hy0, hy1, hy2⟩ := info_parts infoLists
  obtain ⟨ha1, ha2⟩ := ha
  have hfi : (nf : Int) ≤ 100000 := by omega
  have hri : (nr : Int) ≤ 100000 := by omega
  subst hnf
  subst hnr
  have HP0 := Lib.hid hp
  have HNF := Lib.hid (show F.length = F.length from rfl)
  have HNR := Lib.hid (show R.length = R.length from rfl)
  have HB := Lib.hid hb
  have HSF := Lib.hid hsF
  have HSR := Lib.hid hsR
  have HSZ := Lib.hid (add_size w)
  have HPX := Lib.hid (fun o1 o2 o3 => add_pile HP0.out o1 o2 o3)
  have HBX := Lib.hid (fun o1 o2 => add_box w o1 o2)
  have HF0 := Lib.hid hf
  have HR0 := Lib.hid hr
  clear hp hb hsF hsR hf hr
  have HLF := Lib.hid (show F.length ≤ 4194304 by have := HF0.out; omega)
  have HAP := Lib.hid (show Off (.slice Ar R.length cr) w.heap.size (w.heap.size + 2) (w.heap.size + 2) ∧ some (w.heap.size + 2) ≠ (Value.slice Af F.length cf).ownBlock from ⟨⟨fun e => by have := (HP0.out.2.1.1.lt _ e.symm).2; omega, Or.inr (Nat.le_refl _)⟩, fun e => by have := (HP0.out.1.1.lt _ e.symm).2; omega⟩)
  have HAB := Lib.hid (show Off (.slice Ar R.length cr) w.heap.size (w.heap.size + 2) (w.heap.size + 3) ∧ some (w.heap.size + 3) ≠ (Value.slice Af F.length cf).ownBlock from ⟨⟨fun e => by have := (HP0.out.2.1.1.lt _ e.symm).2; omega, Or.inr (by omega)⟩, fun e => by have := (HP0.out.1.1.lt _ e.symm).2; omega⟩)
  have HN0 := Lib.hid (show some w.heap.size ≠ (Value.slice Af F.length cf).ownBlock from fun e => by have := (HP0.out.1.1.lt _ e.symm).2; omega)
  have HN1 := Lib.hid (show some (w.heap.size + 1) ≠ (Value.slice Af F.length cf).ownBlock from fun e => by have := (HP0.out.1.1.lt _ e.symm).2; omega)
  have HPD := Lib.hid (fun o1 o2 o3 o4 => add_pile4 HP0.out o1 o2 o3 o4)
  have HBD := Lib.hid (fun (o1 o2 o3 o4 : Obj) => show Below base w ((((w.alloc o1).alloc o2).alloc o3).alloc o4).drew from (((((Below.refl base w).alloc HB.out _).alloc (le_alloc HB.out) _).alloc (le_alloc (le_alloc HB.out)) _).alloc (le_alloc (le_alloc (le_alloc HB.out))) _).drew)
  rcases prop_cases arg ha1 with hm | hm | hm
  all_goals
    have HMD := Lib.hid hm
    have htm : arg.tmod 3 = arg % 3 := Int.tmod_eq_emod_of_nonneg ha1
    rw [hm] at htm
    have hi0 := fun W => name_at W 0 (by decide)
    have hi1 := fun W => name_at W 1 (by decide)
    have hi2 := fun W => name_at W 2 (by decide)
    simp only [List.getD_cons_zero, List.getD_cons_succ, Int.natCast_zero, Int.natCast_one] at hi0 hi1 hi2
    replace hi2 : ∀ W, (Instr.index 95 (.agg #[.string { data := #[112] }, .string { data := #[113] }, .string { data := #[114] }]) (.int .i64 2)).run Try.prog W = .ok (.string { data := #[114] }) W := hi2
    go_enter Try.func40, Try.ntmps40
    go_wp2_with fail
    go_region_law
      (first
        | (refine step_append_sls rfl (.tmp 31) (.tmp 38) 48 rfl base j0 _ Try.underlying48 hj0 hy0 hy1 hy2 rfl (.slice Af F.length cf) F (by rfl) (Off (.slice Ar R.length cr) w.heap.size (w.heap.size + 2)) (HPD.out _ _ _ _).1 (some ⟨w.heap.size + 3, 0, none⟩) 1 1 [([propNd arg], some ⟨w.heap.size + 2, 0, none⟩, 1)] rfl (by rfl) (box_lists rfl (add_blk3 w _ _ _ _) HAB.out (one_list (add_prop w arg _ _ _ (by first | exact prop0 HMD.out | exact prop1 HMD.out | exact prop2 HMD.out)) rfl (prop_small arg) HAP.out)) (by have := HLF.out; have := HF0.out; omega) (by simp; have := HB.out; omega) ?_; intro v3 w3 hown3 hgr3 hat3; obtain ⟨A3, c3, e3, -, -, -, -⟩ := hown3.slice; subst e3; have k0 := blk_grown hgr3 (blk_drew (add_blk0 w _ _ _ _)) HN0.out; have k1 := blk_grown hgr3 (blk_drew (add_blk1 w _ _ _ _)) HN1.out; have k00 := blk_cell k0 0 _ rfl; have k01 := blk_cell k0 1 _ rfl; have f00 := blk_frozen k0 0; have k10 := blk_cell k1 0 _ rfl; have k11 := blk_cell k1 1 _ rfl; have f10 := blk_frozen k1 0; have f11 := blk_frozen k1 1; have HP3 := Lib.hid ((HPD.out _ _ _ _).grow hown3 hgr3 hat3 (by simp)); have HB3 := Lib.hid ((HBD.out _ _ _ _).grown hgr3 (by simp; have := HB.out; omega) (fun z hz => (HP0.out.1.1.lt z hz).1)); clear k0 k1 hown3 hgr3 hat3)
        )
    all_goals go_wp2
    all_goals
      have he := end_cells (k := 0) (fv := .slice A3 (F.length + 1) c3) (rv := .slice Ar R.length cr) (x := .slice A3 (F.length + 1) c3) k10 k11
      unfold endW at he
      refine bodyPost_ret (v := .agg #[.slice A3 (F.length + 1) c3, .slice Ar R.length cr]) (by simp [results, Try.results40, go_sem, he]) rfl ⟨_, _, F ++ [([propNd arg], some ⟨w.heap.size + 2, 0, none⟩, 1)], R, rfl, ?_, ?_, below_end HB3.out HB.out⟩
      · have := HP3.out
        rw [List.length_append] at this
        exact pile_end (k := 0) (x := .slice A3 (F.length + 1) c3) this
      · unfold addL
        rw [if_neg (by decide), if_pos (by decide), List.map_append]
        rfl

end Go.Proofs.Ytcpmcgbjmncalaa.Tree
