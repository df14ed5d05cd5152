/-
  The walks of the landed tree's Form, Reg, Plain and Same. By an AI agent.
  The landed Reach (stage 14). By an AI agent.
-/
import Derived.Test.YtdbgaccnejffpaaGreatDoorGSatDual32
import Derived.Test.YtdbgaccnejffpaaGreatDoorGSatDual6
import Derived.Shelf.Abstract
namespace Go.Proofs.YtdbgaccnejffpaaGreatDoor.Tree
open Go.RowKit Go.Proofs.YtdbgaccnejffpaaGreatDoor.Ints
set_option maxHeartbeats 2000000 in
theorem landForm (A : Option Addr) (n c : Nat) (l : List Nd) (w : World) (hl : l.length = n) (hn : n ≤ 1048576) (h : Nodes Any w A l) :
  Calls Tryz.prog 23 #[.slice A n c] w fun e w' => e = .returned (.bool (formL l)) ∧ Below w.heap.size w w' := by
 have hni : (n : Int) ≤ 1048576 := by omega
 have hM := fun W (hb : Below w.heap.size w W) => landMay A n c l W hl hn (h.below hb)
 have HL := Lib.hid hl
 have HD := Lib.hid h
 clear hl hn h
 rcases hm : mayL l
 ·have HR := Lib.hid (show formL l = false by unfold formL; rw [hm]; rfl)
  rw [hm] at hM
  have HM := Lib.hid hM
  clear hM hm
  go_enter Tryz.func23, Tryz.ntmps23
  go_wp2_with (go_at_call 30; refine (HM.out _ (Below.refl _ _)).mono ?_; rintro e w1 ⟨rfl, hb1⟩)
  go_ret
  exact ⟨by rw [HR.out]; rfl, hb1⟩
 ·have h0 := may_ne hm
  have HR := Lib.hid (show formL l = formKind (lastKind l) by unfold formL; rw [hm]; rfl)
  rw [hm] at hM
  have HM := Lib.hid hM
  have hn0 : 0 < n := by rw [← HL.out]; exact h0
  obtain ⟨b, off, e, hc⟩ := last_cell HL.out hn0 HD.out
  have HF := Lib.hid (fun W => landIsForm (lastKind l) W)
  have hn1 : (0 : Int) ≤ (n : Int) - 1 := by omega
  have hn2 : (1 : Int) ≤ (n : Int) := by omega
  have HC := Lib.hid hc
  subst e
  clear hM hm h0 hc
  go_enter Tryz.func23, Tryz.ntmps23
  go_wp2_with (first
   | (go_at_call 30; refine (HM.out _ (Below.refl _ _)).mono ?_; rintro e w1 ⟨rfl, hb1⟩; have hc1 := below_cell hb1 HC.out)
   | (go_at_call 31; refine (HF.out _).mono ?_; rintro e w' ⟨rfl, rfl⟩))
  go_ret
  exact ⟨by rw [HR.out]; rfl, hb1⟩
set_option maxHeartbeats 2000000 in
theorem landReg (A : Option Addr) (n c : Nat) (l : List Nd) (w : World) (hl : l.length = n) (hn : n ≤ 1048576) (h : Nodes Any w A l) :
  Calls Tryz.prog 90 #[.slice A n c] w fun e w' => e = .returned (.bool (regL l)) ∧ Below w.heap.size w w' := by
 have hni : (n : Int) ≤ 1048576 := by omega
 have hM := fun W (hb : Below w.heap.size w W) => landMay A n c l W hl hn (h.below hb)
 have HL := Lib.hid hl
 have HD := Lib.hid h
 clear hl hn h
 rcases hm : mayL l
 ·have HR := Lib.hid (show regL l = false by unfold regL; rw [hm]; rfl)
  rw [hm] at hM
  have HM := Lib.hid hM
  clear hM hm
  go_enter Tryz.func90, Tryz.ntmps90
  go_wp2_with (go_at_call 30; refine (HM.out _ (Below.refl _ _)).mono ?_; rintro e w1 ⟨rfl, hb1⟩)
  go_ret
  exact ⟨by rw [HR.out]; rfl, hb1⟩
 ·have h0 := may_ne hm
  have HR := Lib.hid (show regL l = regKind (lastKind l) from reg_last hm)
  rw [hm] at hM
  have HM := Lib.hid hM
  have hn0 : 0 < n := by rw [← HL.out]; exact h0
  obtain ⟨b, off, e, hc⟩ := last_cell HL.out hn0 HD.out
  have HF := Lib.hid (fun W => landIsReg (lastKind l) W)
  have hn1 : (0 : Int) ≤ (n : Int) - 1 := by omega
  have hn2 : (1 : Int) ≤ (n : Int) := by omega
  have HC := Lib.hid hc
  subst e
  clear hM hm h0 hc
  go_enter Tryz.func90, Tryz.ntmps90
  go_wp2_with (first
   | (go_at_call 30; refine (HM.out _ (Below.refl _ _)).mono ?_; rintro e w1 ⟨rfl, hb1⟩; have hc1 := below_cell hb1 HC.out)
   | (go_at_call 74; refine (HF.out _).mono ?_; rintro e w' ⟨rfl, rfl⟩))
  go_ret
  exact ⟨by rw [HR.out]; rfl, hb1⟩
end Go.Proofs.YtdbgaccnejffpaaGreatDoor.Tree

namespace Go.Proofs.YtdbgaccnejffpaaGreatDoor.Paths
open Go.RowKit Go.Shelf Go.Proofs.YtdbgaccnejffpaaGreatDoor.Ints Go.Proofs.YtdbgaccnejffpaaGreatDoor.Mem Go.Proofs.YtdbgaccnejffpaaGreatDoor.Src Go.Proofs.YtdbgaccnejffpaaGreatDoor.Tree Go.Proofs.YtdbgaccnejffpaaGreatDoor.BitsWalks Go.Proofs.YtdbgaccnejffpaaGreatDoor.RdW Go.Proofs.YtdbgaccnejffpaaGreatDoor.Words Go.Proofs.YtdbgaccnejffpaaGreatDoor.Round
attribute [local go_sem] Oper.semAt_some wide_fn wide_depth
theorem RdV.pick {w : World} {V : Option Addr} {n : Nat} {vs : Nat → List Nat} (h : RdV w V n vs) : ∃ Fv : Nat → Option Addr × Nat × Nat, ∀ i, i < n → ∃ b off, V = some ⟨b, off, none⟩ ∧ w.cell? ⟨b, off + i, none⟩ = some (.slice (Fv i).1 (Fv i).2.1 (Fv i).2.2) ∧ RdW w (Fv i).1 (Fv i).2.1 (vs i) := by
 have h2 : ∀ i, ∃ t : Option Addr × Nat × Nat, i < n → ∃ b off, V = some ⟨b, off, none⟩ ∧ w.cell? ⟨b, off + i, none⟩ = some (.slice t.1 t.2.1 t.2.2) ∧ RdW w t.1 t.2.1 (vs i) := fun i => by
  by_cases hi : i < n
  ·obtain ⟨b, off, e, hc⟩ := h (by omega)
   obtain ⟨K, q, c, h1, h3, -⟩ := hc i hi
   exact ⟨(K, q, c), fun _ => ⟨b, off, e, h1, h3⟩⟩
  ·exact ⟨(none, 0, 0), fun e => absurd e hi⟩
 exact Classical.skolem.1 h2
theorem st_tests : ∀ (x : RE) (s t p k : Nat), ∀ e ∈ stE x s t p k, e.2.2 ≤ ((k + nts x : Nat) : Int) := by
 intro x
 induction x with
 | no => intro s t p k e he; cases he
 | step => intro s t p k e he; cases he
 | test x =>
  intro s t p k e he
  obtain rfl := List.mem_singleton.1 he
  show ((k : Nat) : Int) ≤ ((k + 1 : Nat) : Int)
  omega
 | alt a b iha ihb =>
  intro s t p k e he
  simp only [nts]
  rcases List.mem_append.1 he with he | he
  ·have := iha _ _ _ _ e he
   omega
  ·have := ihb _ _ _ _ e he
   omega
 | seq a b iha ihb =>
  intro s t p k e he
  simp only [nts]
  rcases List.mem_append.1 he with he | he
  ·have := iha _ _ _ _ e he
   omega
  ·have := ihb _ _ _ _ e he
   omega
 | many a iha =>
  intro s t p k e he
  simp only [nts]
  rcases List.mem_cons.1 he with rfl | he
  ·show (-1 : Int) ≤ _
   omega
  ·rcases List.mem_append.1 he with he | he
   ·exact iha _ _ _ _ e he
   ·obtain rfl := List.mem_singleton.1 he
    show (-1 : Int) ≤ _
    omega
set_option maxHeartbeats 16000000 in
set_option maxRecDepth 100000 in
theorem landReach (A V : Option Addr) (n c nv cv : Nat) (l : List Nd) (vs : Nat → List Nat) (w : World) (hl : l.length = n) (hnc : n ≤ c) (hn : n ≤ 1048576) (h : Nodes Tree.Any w A l) (hv : RdV w V nv vs) (hnv : nv ≤ 64) :
  Calls Tryz.prog 84 #[.slice A n c, .slice V nv cv] w (GotR w (regL l) nv (tableR l vs nv)) := by
 by_cases hreg : regL l = true
 rotate_left
 ·have hr : regL l = false := Bool.eq_false_iff.2 hreg
  rw [gotR_no hreg]
  have hal : Below w.heap.size w (w.alloc (.cells #[.slice V nv cv] 103)) := (Below.refl _ _).alloc (Nat.le_refl _) _
  have HREG := Lib.hid (landReg A n c l _ hl hn (h.below hal))
  rw [hr] at HREG
  have HB := Lib.hid hal
  clear hreg hr h hv hal
  refine calls_of (n := 10) ?_
  refine callsIn_of_wp_marks Tryz.func84 rfl trivial ?_ rfl
  simp only [Tryz.ntmps84, List.size_toArray, List.length_cons, List.length_nil, Nat.reduceAdd, Nat.reduceSub, Array.replicate_succ, Array.replicate_zero, List.push_toArray, List.append_toArray, List.nil_append, List.cons_append]
  gi_wp2_with fail
  refine (callsIn_wide.2 HREG.out).mono ?_
  rintro e w1 ⟨rfl, hB1⟩
  gi_wp2_with fail
  exact ⟨_, results_tmp rfl _ _ _, rfl, HB.out.trans (hB1.mono HB.out.size)⟩
 obtain ⟨hm, h0, -⟩ := reg_root hreg
 have hsm := reOf_small hreg (by omega)
 rw [gotR_yes hreg]
 have q63 : maxLen = 9223372036854775807 := rfl
 obtain ⟨i0, hi, hz0, hz1, hz2⟩ := info_parts infoBs
 have b1 : i0.bytes * nv ≤ 281474976710656 := by rw [hz2]; omega
 have b3 : nv ≤ maxLen := by omega
 have hal : Below w.heap.size w (w.alloc (.cells #[.slice V nv cv] 103)) := (Below.refl _ _).alloc (Nat.le_refl _) _
 have hx0 := Blk.new w #[.slice V nv cv] 103 _ rfl
 obtain ⟨w1, hw1⟩ : ∃ w1, w.alloc (.cells #[.slice V nv cv] 103) = w1 := ⟨_, rfl⟩
 have hs1 : w1.heap.size = w.heap.size + 1 := by rw [← hw1]; simp
 rw [hw1] at hal hx0
 have HREG := Lib.hid (landReg A n c l w1 hl hn (h.below hal))
 rw [hreg] at HREG
 have HGO := Lib.hid (fun W (hb : Below w.heap.size w W) => landGraphOf A n c l W hl hnc hn (h.below hb) hreg)
 have HX0 := Lib.hid hx0
 have HB1 := Lib.hid hal
 have HN := Lib.hid h
 have HV := Lib.hid hv
 have HSM := Lib.hid hsm
 have HRG := Lib.hid hreg
 clear h hv hal hx0 hsm hreg
 refine calls_of (n := 10) ?_
 refine callsIn_of_wp_marks Tryz.func84 rfl trivial ?_ rfl
 simp only [Tryz.ntmps84, List.size_toArray, List.length_cons, List.length_nil, Nat.reduceAdd, Nat.reduceSub, Array.replicate_succ, Array.replicate_zero, List.push_toArray, List.append_toArray, List.nil_append, List.cons_append]
 refine wpIn_wide.2 ?_
 go_wp2_with fail
 refine HREG.out.mono ?_
 rintro e w2 ⟨rfl, hB2⟩
 have HBL2 := Lib.hid (HB1.out.trans (hB2.mono HB1.out.size))
 have HX2 := Lib.hid (HX0.out.later hB2)
 have hs2 := hB2.size
 clear hB2
 go_wp2_with fail
 refine (HGO.out w2 HBL2.out).mono ?_
 rintro e w3 ⟨gp, rfl, ⟨sv, pv, hG⟩, hB3⟩
 have hs3 := hB3.size
 have HBL3 := Lib.hid (HBL2.out.trans (hB3.mono HBL2.out.size))
 have HX3 := Lib.hid (HX2.out.later hB3)
 -- the graph's variable
 have hal3 : Below w3.heap.size w3 (w3.alloc (.cells #[.pointer (some ⟨gp, 0, none⟩)] 114)) := (Below.refl _ _).alloc (Nat.le_refl _) _
 have hxg := Blk.new w3 #[.pointer (some ⟨gp, 0, none⟩)] 114 _ rfl
 obtain ⟨w4, hw4⟩ : ∃ w4, w3.alloc (.cells #[.pointer (some ⟨gp, 0, none⟩)] 114) = w4 := ⟨_, rfl⟩
 have hs4 : w4.heap.size = w3.heap.size + 1 := by rw [← hw4]; simp
 rw [hw4] at hal3 hxg
 have HBL4 := Lib.hid (HBL3.out.trans (hal3.mono HBL3.out.size))
 have HX4 := Lib.hid (HX3.out.later hal3)
 have HG4 := Lib.hid (hG.later hal3)
 have HGL := Lib.hid (show gp < w3.heap.size ∧ (∀ q, sv.ownBlock = some q → q < w3.heap.size) ∧ ∀ q, pv.ownBlock = some q → q < w3.heap.size from ⟨hG.blk.1, fun q e => (hG.sts.lt q e).2, fun q e => (hG.sps.lt q e).2⟩)
 have HXG := Lib.hid hxg
 have x3 := HX4.out.cell 0 rfl
 clear hB3 hG hal3 hxg
 go_wp2_with (at_make; refine wpList_make_full _ rfl (.tmp 17) (.tmp 17) 63 rfl w4.heap.size 52 i0 (.slice none 0 0) 1 Tryz.underlying63 hi hz0 hz1 .i64 .i64 _ _ nv rfl rfl rfl rfl b1 b3 (Nat.le_refl _) ?_; intro w5 hmade hgr5; rw [made_slices] at hmade)
 have hb45 : Below w4.heap.size w4 w5 := ⟨hgr5.os, hgr5.tape, hgr5.output, hgr5.size, fun k hk => hgr5.block k hk (by simp)⟩
 rw [hs4] at hmade
 have hal5 : Below w5.heap.size w5 (w5.alloc (.cells #[.slice (some ⟨w3.heap.size + 1, 0, none⟩) nv nv] 63)) := (Below.refl _ _).alloc (Nat.le_refl _) _
 have hx6 := Blk.new w5 #[.slice (some ⟨w3.heap.size + 1, 0, none⟩) nv nv] 63 _ rfl
 obtain ⟨w6, hw6⟩ : ∃ w6, w5.alloc (.cells #[.slice (some ⟨w3.heap.size + 1, 0, none⟩) nv nv] 63) = w6 := ⟨_, rfl⟩
 have hs6 : w6.heap.size = w5.heap.size + 1 := by rw [← hw6]; simp
 rw [hw6] at hal5 hx6 ⊢
 have hb46 : Below w4.heap.size w4 w6 := hb45.trans (hal5.mono hb45.size)
 have hBRl : w3.heap.size + 1 < w5.heap.size := (hmade.lt _ rfl).2
 have hrow6 : w6.ownsRow w.heap.size 52 1 (.slice (some ⟨w3.heap.size + 1, 0, none⟩) nv nv) nv (List.replicate nv (.slice none 0 0)) := own_lo (Mem.below_row hmade hal5) (by omega)
 obtain ⟨np, hnp⟩ : ∃ np, 2 + npl (reOf l) = np := ⟨_, rfl⟩
 obtain ⟨wn, hwn⟩ : ∃ wn, (nv + 63) / 64 = wn := ⟨_, rfl⟩
 have hG6 := HG4.out.later hb46
 rw [hnp] at hG6
 have hnp2 : 2 ≤ np ∧ np ≤ 2000000 := by have := HSM.out; omega
 have HBL6 := Lib.hid (HBL4.out.trans (hb46.mono HBL4.out.size))
 have HX6 := Lib.hid (HX4.out.later hb46)
 have HXG6 := Lib.hid (HXG.out.later hb46)
 have hst := fun W (hb : Below w6.heap.size w6 W) => landSets w2.heap.size gp np _ _ _ nv W ⟨sv, pv, hG6.later hb⟩ hnp2.2 (by omega)
 rw [hwn] at hst
 refine wp_mono (make_two A V n c nv cv np wn w.heap.size w3.heap.size w5.heap.size gp (w3.heap.size + 1) w6 _ rfl (fun W hb => (HX6.out.later hb).cell 0 rfl) (fun W hb => (HXG6.out.later hb).cell 0 rfl) hst) ?_
 intro e a W hp
 cases e with
 | normal =>
  obtain ⟨X7, X8, B1, B2, R1, R2, rfl, hT, hbT⟩ := hp
  have HT := Lib.hid hT
  have HBT := Lib.hid hbT
  have HG := Lib.hid (hG6.later hbT)
  have HROW := Lib.hid (Mem.below_row hrow6 hbT)
  have HX6' := Lib.hid (hx6.later hbT)
  have HXG7 := Lib.hid (HXG6.out.later hbT)
  have HX7 := Lib.hid (HX6.out.later hbT)
  have x3 := HX7.out.cell 0 rfl
  have HS := Lib.hid (And.intro hs1 (And.intro hs2 (And.intro hs3 (And.intro hs4 (And.intro hs6 hBRl)))))
  clear hT hbT hst hG6 hrow6 hx6 hal5 hb45 hb46 hmade hgr5 hs1 hs2 hs3 hs4 hs6 hw4 hw6 hw1 hBRl
  go_wp2_with fail
  refine (backV _ _ _ _).mono ?_
  rintro e w8 ⟨rfl, rfl⟩
  go_wp2_with fail
  have hal7 : Below W.heap.size W (W.alloc (.cells #[.slice V nv cv] 103)) := (Below.refl _ _).alloc (Nat.le_refl _) _
  have hxB := Blk.new W #[.slice V nv cv] 103 _ rfl
  obtain ⟨w7, hw7⟩ : ∃ w7, W.alloc (.cells #[.slice V nv cv] 103) = w7 := ⟨_, rfl⟩
  rw [hw7] at hal7 hxB ⊢
  obtain ⟨Fv, hFv⟩ := HV.out.pick
  obtain ⟨hs1, hs2, hs3, hs4, hs6, hBRl⟩ := HS.out
  have hbw7 : Below w.heap.size w w7 := HBL6.out.trans ((HBT.out.trans (hal7.mono HBT.out.size)).mono HBL6.out.size)
  have hT7 : Two w7 w6.heap.size np wn X7 X8 B1 B2 R1 R2 := ⟨boxed_later HT.out.x7 hal7, boxed_later HT.out.x8 hal7, HT.out.s1.below hal7, HT.out.s2.below hal7, HT.out.ap, HT.out.xx, HT.out.lo7, HT.out.lo8⟩
  have hrl := (HROW.out.lt _ rfl).2
  have HBW7 := Lib.hid hbw7
  refine (wpIn_wide (n := 10)).1 ?_
  refine reach_range A V n c nv cv np (nts (reOf l)) wn w.heap.size w3.heap.size w5.heap.size W.heap.size gp (w3.heap.size + 1) X7 X8 B1 B2 w6.heap.size w2.heap.size w.heap.size (w3.heap.size + 1) _ _ sv pv R1 R2 (fun _ => 0) (stE (reOf l) 0 1 2 0) (spE (reOf l) 0 1 2) vs Fv _ w7 _ _ rfl
   hnv (by omega) hnp2 (HG.out.later hal7) hT7 ((HX7.out.later hal7).cell 0 rfl) ((HXG7.out.later hal7).cell 0 rfl) ((HX6'.out.later hal7).cell 0 rfl) (hxB.cell 0 rfl) (by have := HGL.out.1; omega) (fun q e => by have := HGL.out.2.1 q e; omega) (fun q e => by have := HGL.out.2.2 q e; omega) (by omega) (by omega) (Nat.le_refl _) (by omega) (by omega) (by omega) (by omega)
   (fun k hk e => ?_) ⟨?_, fun a ha hd => (by cases hd), fun a ha hd => (by cases hd)⟩ hbw7.size (fun i hi => ?_) (fun e he => ?_) (fun e he => ?_) (by rw [st_len]; have := HSM.out; omega) (by rw [sp_len]; have := HSM.out; omega) ?_
  ·subst e
   rcases hk with e | e | e | ⟨i, hi, e⟩ | ⟨i, hi, e⟩
   ·have := HT.out.x7.lt; omega
   ·have := HT.out.x8.lt; omega
   ·have : w3.heap.size + 1 < W.heap.size := hrl
    omega
   ·have := (HT.out.s1.lt.2 i hi).2; omega
   ·have := (HT.out.s2.lt.2 i hi).2; omega
  ·have e : outR nv (fun _ => false) (fun _ => 0) = List.replicate nv (.slice none 0 0) := by
    unfold outR
    rw [show (fun a : Nat => if (false : Bool) = true then Value.slice (some ⟨0, 0, none⟩) nv nv else .slice none 0 0) = fun _ => .slice none 0 0 from funext fun a => if_neg (by decide), List.map_const', List.length_range]
   rw [e]
   exact Mem.below_row HROW.out hal7
  ·obtain ⟨b, off, e, h1, h2⟩ := hFv i hi
   have hbl : b < w.heap.size := World.block_lt_of_cell? w _ h1
   refine ⟨b, off, e, by omega, Mem.below_cell hbw7 h1, h2.below hbw7, fun a ha h0 => ?_⟩
   have := rd_lt h2 a ha h0
   omega
  ·have h1 := st_from (reOf l) 0 1 2 0 e he
   have h2 := st_tests (reOf l) 0 1 2 0 e he
   have := HSM.out
   refine ⟨by omega, by omega⟩
  ·have h1 := sp_from (reOf l) 0 1 2 e he
   omega
  ·intro D W9 rb hD hR hL hK
   have hDlo : ∀ k, (k = X7 ∨ k = X8 ∨ k = w3.heap.size + 1 ∨ InRows R1 np k ∨ InRows R2 np k) → w3.heap.size + 1 ≤ k ∧ k ≠ w5.heap.size := fun k hk => by
    rcases hk with rfl | rfl | rfl | ⟨i, hi, rfl⟩ | ⟨i, hi, rfl⟩
    ·have := HT.out.lo7; omega
    ·have := HT.out.lo8; omega
    ·omega
    ·have := (HT.out.s1.lt.2 i hi).1; omega
    ·have := (HT.out.s2.lt.2 i hi).1; omega
   have hsz7 : W.heap.size ≤ w7.heap.size := hal7.size
   have hszB : w6.heap.size ≤ W.heap.size := HBT.out.size
   have k6 : W9.cell? ⟨w5.heap.size, 0, none⟩ = some (.slice (some ⟨w3.heap.size + 1, 0, none⟩) nv nv) := (World.cell?_of_block (w := w7) (a := ⟨w5.heap.size, 0, none⟩) (hL.block w5.heap.size (by omega) (fun hd => (hDlo _ hd).2 rfl))).trans ((HX6'.out.later hal7).cell 0 rfl)
   have hbe : Below w.heap.size w W9 := hbw7.trans (hL.below (fun k hk => by have := (hDlo k hk).1; omega) (by omega))
   have hbe2 : Below w.heap.size w (W9.putObj D (.deferred none)) := hbe.grown (grownBy_putObj' W9 D (.deferred none)) (by have := hbe.size; omega) (fun k e => by injection e with e; omega)
   have HTAB := Lib.hid (show Tab (W9.putObj D (.deferred none)) w.heap.size (w3.heap.size + 1) rb nv (tableR l vs nv) from by
    refine ⟨?_, fun i hi => ?_, fun i hi => ?_⟩
    ·have e : outR nv (doneF (dn nv nv)) rb = (List.range nv).map fun i => .slice (some ⟨rb i, 0, none⟩) nv nv := by
      unfold outR
      apply List.map_congr_left
      intro a ha
      rw [doneF_dn nv (Nat.le_refl _) a (List.mem_range.1 ha) (by omega), if_pos rfl]
     rw [← e]
     exact ownsRow_putObj hR.out _ hK rfl
    ·have e : rowB nv (rowF (stE (reOf l) 0 1 2 0) (spE (reOf l) 0 1 2) vs (dn nv nv) i) = rowT nv (tableR l vs nv) i := by
      unfold rowB rowT
      apply List.map_congr_left
      intro j hj
      rw [rowF_dn _ _ _ nv (Nat.le_refl _) i hi (by omega) j, row_tells HRG.out vs hi (List.mem_range.1 hj) hnv]
     rw [← e]
     exact ownsRow_putObj (hR.row i hi (doneF_dn nv (Nat.le_refl _) i hi (by omega))) _ hK rfl
    ·exact ⟨(hR.off i hi (doneF_dn nv (Nat.le_refl _) i hi (by omega))).1, fun j hj e => (hR.off i hi (doneF_dn nv (Nat.le_refl _) i hi (by omega))).2 j hj (doneF_dn nv (Nat.le_refl _) j hj (by omega)) e⟩)
   have HK := Lib.hid (run_takeDeferred (P := Tryz.prog) hK)
   have HBE := Lib.hid hbe2
   clear hR hL hK hbe hbe2 hDlo
   go_wp2_with fail
   refine ⟨by simp, .inl ⟨_, _, rfl, HK.out, ?_⟩⟩
   exact ⟨_, results_tmp rfl _ _ _, w3.heap.size + 1, rb, rfl, HTAB.out, HBE.out⟩
 | ret => exact hp.elim
 | exit id => exact hp.elim
 | goto t => exact hp.elim
 | panic ch => exact hp.elim
 | outgrown => exact hp.elim
end Go.Proofs.YtdbgaccnejffpaaGreatDoor.Paths
