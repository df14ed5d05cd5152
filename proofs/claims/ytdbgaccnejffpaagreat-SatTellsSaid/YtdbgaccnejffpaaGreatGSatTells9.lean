/-
  The part of TreeMay that speaks of functions which not every seat has. By an AI agent.
-/
import Derived.Test.YtdbgaccnejffpaaGreatGSatTells7
import Derived.Test.YtdbgaccnejffpaaGreatGSatTells8
namespace Go.Proofs.YtdbgaccnejffpaaGreat.Tree
open Go.RowKit Go.Proofs.YtdbgaccnejffpaaGreat.Ints
set_option maxHeartbeats 8000000 in
set_option maxRecDepth 100000 in
theorem refMay (A : Option Addr) (n c : Nat) (l : List Nd) (w : World) (hl : l.length = n) (hn : n ≤ 1048576) (h : Nodes Any w A l) :
  Calls Tryz.prog 28 #[.slice A n c] w fun e w' => e = .returned (.bool (mayL l)) ∧ Below w.heap.size w w' := by
 obtain ⟨i0, hi, hz0, hz1, hz2⟩ := info_parts infoInt
 have hni : (n : Int) ≤ 1048576 := by omega
 have HN := Lib.hid hn
 have HL := Lib.hid hl
 have HD := Lib.hid h
 clear hn hl h
 go_enter Tryz.func28, Tryz.ntmps28
 go_wp2
 go_loopw [3, 11] (fun o i wr => ∃ (k : Nat) (st : List Nat), k ≤ n ∧ i = .int .i64 k ∧ Hid (mayUpTo l k = some st) ∧ wr.ownsRow w.heap.size 3 1 o st.length ((zints st).map (Value.int .i64)) ∧ Below w.heap.size w wr) (fun _ i _ => n - (intOf i).toNat)
 case atStart => exact ⟨0, [], Nat.zero_le _, rfl, rfl, World.ownsRow_nil _ _ _ _, Below.refl _ _⟩
 case round =>
  obtain ⟨k, st, hk, rfl, HU, hown, hB⟩ := hrel
  obtain ⟨D, cD, rfl, hD1, hD2, -, -⟩ := own_slice hown
  have HO := Lib.hid hown
  have HB := Lib.hid hB
  have hst := (upTo_lt l k st HU.out).2
  have HST := Lib.hid (upTo_lt l k st HU.out).1
  clear hown hB
  by_cases hkn : k < n
  ·have hkn' : (k : Int) < (n : Int) := by omega
   have hkl : k < l.length := by have := HL.out; omega
   have HKL := Lib.hid hkl
   obtain ⟨b, off, e, hnodes⟩ := (HD.out.below HB.out) (by omega)
   obtain ⟨nd, hnd⟩ : ∃ nd, l[k]? = some nd := ⟨_, List.getElem?_eq_getElem hkl⟩
   obtain ⟨x0, x1, x2, x3, s0, s2, s3, s1, K, cK, x4, hK, hKc, hcK, -, -⟩ := hnodes k nd hnd
   rw [Nat.mul_comm 5 k] at x0 x1 x2 x3 x4
   have HND := Lib.hid hnd
   have HNS := Lib.hid hnodes
   have HA := Lib.hid (fun W => refArity nd.kind W)
   have HRK0 := Lib.hid hK
   subst e
   clear hnd hnodes hK
   have hNM := fun W => Lex.refName nd.name W s1
   have hTM := fun W => refTimed nd.kind W
   have hSP := fun W => Ival.refMay nd.lo nd.hi W
   have HSQ := Lib.hid (fun W => span_neq nd.lo nd.hi 0 0 W)
   obtain ⟨a, hae⟩ : ∃ a, arity nd.kind = a := ⟨_, rfl⟩
   rw [hae] at HA
   by_cases ha : a < 0
   ·have HM := Lib.hid (may_stop HU.out hkl (step_none HND.out (Or.inl (shape_bad1 (by rw [hae]; exact ha)))))
    clear hae hkl hNM hTM hSP
    go_wp2_with (first | (go_at_call 57; refine (HA.out _).mono ?_; rintro e w' ⟨rfl, rfl⟩))
    go_ret
    exact ⟨by rw [HM.out]; rfl, HB.out.alloc HB.out.size _⟩
   ·have ha' : decide (a < 0) = false := decide_eq_false ha
    by_cases hm : (nd.kids.length : Int) = a
    ·by_cases ho : a ≤ (st.length : Int)
     ·have ho' : decide ((st.length : Int) < a) = false := decide_eq_false (by omega)
      have hm' : ((nd.kids.length : Int) != a) = false := by rw [hm]; simp
      have hways : ((nd.kind == 3) = true ∧ (nd.kind != 3) = false ∧ nd.kind = 3) ∨ ((nd.kind == 3) = false ∧ (nd.kind != 3) = true ∧ nd.kind ≠ 3) := by
       by_cases h3 : nd.kind = 3
       ·exact Or.inl ⟨by rw [h3]; rfl, by rw [h3]; rfl, h3⟩
       ·exact Or.inr ⟨beq_eq_false_iff_ne.2 h3, bne_iff_ne.2 h3, h3⟩
      have hsh : (nd.kind = 3 ∧ Lex.nameS nd.name.data.toList = true) ∨ (nd.kind ≠ 3 ∧ nd.name.data.toList = []) → okShape nd st.length = true := shape_ok (by rw [hae]; omega) (by rw [hae]; exact hm) (by rw [hae]; exact ho)
      have HSH := Lib.hid hsh
      clear hsh
      obtain ⟨m, hmk⟩ : ∃ m, nd.kids.length = m := ⟨_, rfl⟩
      rw [hmk] at hm x4 hm' hKc HRK0
      have hmst : m ≤ st.length := by omega
      have HMK := Lib.hid hmk
      have HAE := Lib.hid hae
      subst hm
      have hrt := Rd.from (Rd.own HO.out (zints_wf st n HN.out (fun x hx => Nat.lt_trans (HST.out x hx) hkn))) hD1 (show st.length - m ≤ st.length from Nat.sub_le _ _)
      rw [show st.length - (st.length - m) = m by omega] at hrt
      have hsl := slice_from (P := Tryz.prog) 29 typeInts 1 sizeElemInts D st.length cD (st.length - m) (Nat.sub_le _ _)
      rw [show st.length - (st.length - m) = m by omega, Int.ofNat_sub hmst] at hsl
      obtain ⟨T, hT⟩ : ∃ T, fromAddr D cD (st.length - m) 1 = T := ⟨_, rfl⟩
      obtain ⟨cT, hcT⟩ : ∃ cT, cD - (st.length - m) = cT := ⟨_, rfl⟩
      rw [hT] at hrt hsl
      rw [hcT] at hsl
      have HRT0 := Lib.hid hrt
      have HKF := Lib.hid (kid_facts HL.out HST.out hkn hmst hmk HNS.out)
      clear hT hcT hrt hmk
      clear hae
      rcases hways with ⟨h3, h3', h3e⟩ | ⟨h3, h3', h3e⟩
      ·rcases hnm : Lex.nameS nd.name.data.toList
       ·rw [hnm] at hNM
        have HNM := Lib.hid hNM
        have HM := Lib.hid (may_stop HU.out hkl (step_none HND.out (Or.inl (shape_bad4 h3e hnm))))
        clear hkl ho ha hnm h3e hNM hTM hSP
        go_wp2_with (first | (go_at_call 57; refine (HA.out _).mono ?_; rintro e w' ⟨rfl, rfl⟩) | (go_at_call 55; refine (HNM.out _).mono ?_; rintro e w' ⟨rfl, rfl⟩))
        go_ret
        exact ⟨by rw [HM.out]; rfl, HB.out.alloc HB.out.size _⟩
       ·rw [hnm] at hNM
        have HNM := Lib.hid hNM
        have hsh := HSH.out (Or.inl ⟨h3e, hnm⟩)
        have htm : timed nd.kind = false := by rw [h3e]; decide
        rw [htm] at hTM
        have HTM := Lib.hid hTM
        by_cases hz : nd.lo = 0 ∧ nd.hi = 0
        ·have HOS := Lib.hid (span_ok2 htm hz)
         rw [decide_eq_true hz] at HSQ
         have HSQ1 := HSQ.out
         have hgs := guardSpan
         have HSHO := Lib.hid hsh
         clear hkl ho ha hnm h3e hNM hTM hSP htm hz hsh HSQ
         go_wp2_with (first | (go_at_call 57; refine (HA.out _).mono ?_; rintro e w' ⟨rfl, rfl⟩) | (go_at_call 55; refine (HNM.out _).mono ?_; rintro e w' ⟨rfl, rfl⟩) | (go_at_call 58; refine (HTM.out _).mono ?_; rintro e w' ⟨rfl, rfl⟩))
         obtain ⟨wo, hwo⟩ : ∃ wo : World, wo = wr := ⟨_, rfl⟩
         rw [← hwo] at HB HO HNS HRK0 HRT0 HKF
         go_loopw [83] (fun i wx => ∃ j : Nat, j ≤ m ∧ i = .int .i64 j ∧ Below wo.heap.size wo wx ∧ wx.cell? ⟨wo.heap.size, 0, none⟩ = some (.int .i64 nd.kind) ∧ wx.cell? ⟨wo.heap.size, 4, none⟩ = some (.slice K m cK) ∧ Hid (∀ i, i < j → ∀ k t, nd.kids[i]? = some k → (st.drop (st.length - m))[i]? = some t → okKid l nd k t = true)) (fun i _ => m - (intOf i).toNat)
         case atStart => exact ⟨0, Nat.zero_le _, rfl, by rw [hwo]; exact (Below.refl _ _).alloc (Nat.le_refl _) _, by rw [hwo]; exact box_cell 0 _ rfl, by rw [hwo]; exact box_cell 4 _ rfl, fun i hi => absurd hi (by omega)⟩
         case round =>
          obtain ⟨j, hj, rfl, hBx, hx0, hx4, HJ⟩ := hrel
          rw [hwo] at hx0 hx4
          have HBX := Lib.hid hBx
          by_cases hjm : j < m
          ·have hjm' : (j : Int) < (m : Int) := by omega
           have hj0 : (0 : Int) ≤ (j : Int) := by omega
           obtain ⟨kj, tj, x, hkj, htj, hkj', htj', htn, hxl, hnode⟩ := HKF.out j hjm
           obtain ⟨bk, ok, eK, hkc⟩ := (HRK0.out.below hBx).cell (by omega)
           obtain ⟨bt, ot, eT, htc⟩ := (HRT0.out.below hBx).cell (by omega)
           have ck := hkc j hjm
           have ct := htc j hjm
           have cn := below_cell hBx hnode
           rw [hkj'] at ck
           rw [htj'] at ct
           have HF := Lib.hid (fun W => refFits nd.kind x.kind W)
           have htn' : (tj : Int) < (n : Int) := by omega
           have ht0 : (0 : Int) ≤ (tj : Int) := by omega
           have HKJ := Lib.hid hkj
           have HTJ := Lib.hid htj
           have HXL := Lib.hid hxl
           subst eK
           subst eT
           clear hkc htc hnode hkj htj hkj' htj' hxl hBx
           by_cases he : kj = (tj : Int)
           ·rcases hfi : fits nd.kind x.kind
            ·rw [hfi] at HF
             have he' : (kj != (tj : Int)) = false := by rw [he]; simp
             have HM := Lib.hid (may_stop HU.out HKL.out (step_none HND.out (Or.inr (Or.inr (by rw [HMK.out]; exact okKids_bad j HKJ.out HTJ.out (okKid_no2 HXL.out hfi))))))
             clear he hfi hwo
             go_wp2
             go_quiet ((go_at_call 60; refine (HF.out _).mono ?_; rintro e w' ⟨rfl, rfl⟩; exact ⟨rfl, _, rfl⟩))
             go_wp2
             go_ret
             exact ⟨by rw [HM.out]; rfl, below_drewN (HB.out.trans (HBX.out.mono HB.out.size)) _⟩
            ·rw [hfi] at HF
             have he' : (kj != (tj : Int)) = false := by rw [he]; simp
             have HJ2 := Lib.hid (show ∀ i, i < j + 1 → ∀ k t, nd.kids[i]? = some k → (st.drop (st.length - m))[i]? = some t → okKid l nd k t = true from fun i hi k t h1 h2 => by
              by_cases hij : i = j
              ·subst hij
               have e1 := HKJ.out.symm.trans h1
               have e2 := HTJ.out.symm.trans h2
               injection e1 with e1
               injection e2 with e2
               subst e1; subst e2
               exact okKid_yes HXL.out he hfi
              ·exact HJ.out i (by omega) k t h1 h2)
             have HWO := Lib.hid hwo
             clear he hfi hwo
             go_wp2
             go_quiet ((go_at_call 60; refine (HF.out _).mono ?_; rintro e w' ⟨rfl, rfl⟩; exact ⟨rfl, _, rfl⟩))
             go_wp2
             go_roundw
             case rel => exact ⟨j + 1, by omega, by go_num, below_drewN HBX.out _, by rw [HWO.out]; exact hx0, by rw [HWO.out]; exact hx4, HJ2⟩
             case measure => simp [intOf]; omega
           ·have he' : (kj == (tj : Int)) = false := beq_eq_false_iff_ne.2 he
            have he2 : (kj != (tj : Int)) = true := bne_iff_ne.2 he
            have HM := Lib.hid (may_stop HU.out HKL.out (step_none HND.out (Or.inr (Or.inr (by rw [HMK.out]; exact okKids_bad j HKJ.out HTJ.out (okKid_no1 he))))))
            clear he hwo
            go_wp2
            go_quiet (fail)
            go_wp2
            go_ret
            exact ⟨by rw [HM.out]; rfl, below_drewN (HB.out.trans (HBX.out.mono HB.out.size)) _⟩
          ·have hge : decide ((j : Int) < (m : Int)) = false := by simp; omega
           have HM := Lib.hid (may_go HU.out (step_some HND.out HSHO.out HOS.out (by rw [HMK.out]; exact okKids_upto (by rw [HMK.out, List.length_drop]; omega) (fun i hi k t h1 h2 => HJ.out i (by rw [HMK.out] at hi; omega) k t h1 h2))))
           have hdm : (st.length : Int) - (m : Int) = ((st.length - m : Nat) : Int) := (Int.ofNat_sub hmst).symm
           have hbase : w.heap.size ≤ wr.heap.size := Nat.le_trans HB.out.size HBX.out.size
           have HRD := Lib.hid (((Rd.own HO.out (zints_wf st n HN.out (fun x hx => Nat.lt_trans (HST.out x hx) hkn))).take (Nat.sub_le st.length m)).below (HBX.out.alloc HBX.out.size (.cells #[] 3)))
           have HST2 := Lib.hid (show st.length ≤ 1048576 by have := HN.out; omega)
           have HBB := Lib.hid (HB.out.trans (HBX.out.mono HB.out.size))
           rw [HMK.out] at HM
           have hmint : (m : Int) ≤ (st.length : Int) := Int.ofNat_le.2 hmst
           have hsub : (st.length : Int) - (m : Int) ≤ (cD : Int) := by omega
           clear hBx hwo
           go_wp2_with (first
            | (at_builtin; refine wpList_append_ints rfl (.tmp 111) (.tmp 117) 29 rfl .i64 w.heap.size 3 i0 8 Tryz.underlying29 hi hz0 hz1 hz2 _ 0 [] rfl (World.ownsRow_made wr #[] 0 hbase (by decide) rfl) D (st.length - m) cD ((zints st).take (st.length - m)) rfl HRD.out (by have := HST2.out; have : maxLen = 9223372036854775807 := rfl; omega) (by have := HST2.out; omega) (le_alloc hbase) ?_; intro v1 w1 hown1 hgr1; have hw1 : w.heap.size ≤ w1.heap.size := Nat.le_trans (le_alloc hbase) hgr1.size)
            | (at_builtin; refine wpList_append_ints rfl (.tmp 118) (.tmp 120) 29 rfl .i64 w.heap.size 3 i0 8 Tryz.underlying29 hi hz0 hz1 hz2 _ _ _ rfl (hown1.alloc _) _ 1 1 [(k : Int)] rfl (Rd.lit w1 3 (0, 0) [(k : Int)] (fun z hz => by rw [List.mem_singleton.1 hz]; exact WalkArith.wf_i64 (by omega))) (by have := HST2.out; have : maxLen = 9223372036854775807 := rfl; omega) (by have := HST2.out; omega) (le_alloc hw1) ?_; intro v2 w2 hown2 hgr2))
           go_roundw
           case rel => exact ⟨k + 1, st.take (st.length - m) ++ [k], by omega, by go_num, HM, own_next hown2, may_below HBB.out hbase hgr1 hgr2 (fun q hq => (World.ownsRow_made (e := 3) (size := 1) wr #[] 0 hbase (by decide) rfl).lt q hq |>.1) (fun q hq => (hown1.lt q hq).1)⟩
           case measure => simp [intOf]; omega
        ·have HM := Lib.hid (may_stop HU.out hkl (step_none HND.out (Or.inr (Or.inl (span_bad2 htm hz)))))
         rw [decide_eq_false hz] at HSQ
         have HSQ1 := HSQ.out
         have hgs := guardSpan
         clear hkl ho ha hnm h3e hNM hTM hSP htm hz hsh HSQ
         go_wp2_with (first | (go_at_call 57; refine (HA.out _).mono ?_; rintro e w' ⟨rfl, rfl⟩) | (go_at_call 55; refine (HNM.out _).mono ?_; rintro e w' ⟨rfl, rfl⟩) | (go_at_call 58; refine (HTM.out _).mono ?_; rintro e w' ⟨rfl, rfl⟩))
         go_ret
         exact ⟨by rw [HM.out]; rfl, HB.out.alloc HB.out.size _⟩
      ·have HNM := Lib.hid hNM
       by_cases hne : nd.name.data.toList = []
       ·have hn1 : nd.name.toList = [] := by rw [ByteArray.toList_eq]; exact hne
        have hn2 : (!nd.name.toList.isEmpty) = false := by rw [hn1]; rfl
        have hn3 : nd.name.toList.isEmpty = true := by rw [hn1]; rfl
        have hsh := HSH.out (Or.inr ⟨h3e, hne⟩)
        have HSHO := Lib.hid hsh
        clear hNM hsh hne ho ha
        rcases htm : timed nd.kind
        ·rw [htm] at hTM
         have HTM := Lib.hid hTM
         by_cases hz : nd.lo = 0 ∧ nd.hi = 0
         ·have HOS := Lib.hid (span_ok2 htm hz)
          rw [decide_eq_true hz] at HSQ
          have HSQ1 := HSQ.out
          have hgs := guardSpan
          clear hkl h3e hTM hSP htm hz HSQ
          go_wp2_with (first | (go_at_call 57; refine (HA.out _).mono ?_; rintro e w' ⟨rfl, rfl⟩) | (go_at_call 55; refine (HNM.out _).mono ?_; rintro e w' ⟨rfl, rfl⟩) | (go_at_call 58; refine (HTM.out _).mono ?_; rintro e w' ⟨rfl, rfl⟩))
          obtain ⟨wo, hwo⟩ : ∃ wo : World, wo = wr := ⟨_, rfl⟩
          rw [← hwo] at HB HO HNS HRK0 HRT0 HKF
          go_loopw [83] (fun i wx => ∃ j : Nat, j ≤ m ∧ i = .int .i64 j ∧ Below wo.heap.size wo wx ∧ wx.cell? ⟨wo.heap.size, 0, none⟩ = some (.int .i64 nd.kind) ∧ wx.cell? ⟨wo.heap.size, 4, none⟩ = some (.slice K m cK) ∧ Hid (∀ i, i < j → ∀ k t, nd.kids[i]? = some k → (st.drop (st.length - m))[i]? = some t → okKid l nd k t = true)) (fun i _ => m - (intOf i).toNat)
          case atStart => exact ⟨0, Nat.zero_le _, rfl, by rw [hwo]; exact (Below.refl _ _).alloc (Nat.le_refl _) _, by rw [hwo]; exact box_cell 0 _ rfl, by rw [hwo]; exact box_cell 4 _ rfl, fun i hi => absurd hi (by omega)⟩
          case round =>
           obtain ⟨j, hj, rfl, hBx, hx0, hx4, HJ⟩ := hrel
           rw [hwo] at hx0 hx4
           have HBX := Lib.hid hBx
           by_cases hjm : j < m
           ·have hjm' : (j : Int) < (m : Int) := by omega
            have hj0 : (0 : Int) ≤ (j : Int) := by omega
            obtain ⟨kj, tj, x, hkj, htj, hkj', htj', htn, hxl, hnode⟩ := HKF.out j hjm
            obtain ⟨bk, ok, eK, hkc⟩ := (HRK0.out.below hBx).cell (by omega)
            obtain ⟨bt, ot, eT, htc⟩ := (HRT0.out.below hBx).cell (by omega)
            have ck := hkc j hjm
            have ct := htc j hjm
            have cn := below_cell hBx hnode
            rw [hkj'] at ck
            rw [htj'] at ct
            have HF := Lib.hid (fun W => refFits nd.kind x.kind W)
            have htn' : (tj : Int) < (n : Int) := by omega
            have ht0 : (0 : Int) ≤ (tj : Int) := by omega
            have HKJ := Lib.hid hkj
            have HTJ := Lib.hid htj
            have HXL := Lib.hid hxl
            subst eK
            subst eT
            clear hkc htc hnode hkj htj hkj' htj' hxl hBx
            by_cases he : kj = (tj : Int)
            ·rcases hfi : fits nd.kind x.kind
             ·rw [hfi] at HF
              have he' : (kj != (tj : Int)) = false := by rw [he]; simp
              have HM := Lib.hid (may_stop HU.out HKL.out (step_none HND.out (Or.inr (Or.inr (by rw [HMK.out]; exact okKids_bad j HKJ.out HTJ.out (okKid_no2 HXL.out hfi))))))
              clear he hfi hwo
              go_wp2
              go_quiet ((go_at_call 60; refine (HF.out _).mono ?_; rintro e w' ⟨rfl, rfl⟩; exact ⟨rfl, _, rfl⟩))
              go_wp2
              go_ret
              exact ⟨by rw [HM.out]; rfl, below_drewN (HB.out.trans (HBX.out.mono HB.out.size)) _⟩
             ·rw [hfi] at HF
              have he' : (kj != (tj : Int)) = false := by rw [he]; simp
              have HJ2 := Lib.hid (show ∀ i, i < j + 1 → ∀ k t, nd.kids[i]? = some k → (st.drop (st.length - m))[i]? = some t → okKid l nd k t = true from fun i hi k t h1 h2 => by
               by_cases hij : i = j
               ·subst hij
                have e1 := HKJ.out.symm.trans h1
                have e2 := HTJ.out.symm.trans h2
                injection e1 with e1
                injection e2 with e2
                subst e1; subst e2
                exact okKid_yes HXL.out he hfi
               ·exact HJ.out i (by omega) k t h1 h2)
              have HWO := Lib.hid hwo
              clear he hfi hwo
              go_wp2
              go_quiet ((go_at_call 60; refine (HF.out _).mono ?_; rintro e w' ⟨rfl, rfl⟩; exact ⟨rfl, _, rfl⟩))
              go_wp2
              go_roundw
              case rel => exact ⟨j + 1, by omega, by go_num, below_drewN HBX.out _, by rw [HWO.out]; exact hx0, by rw [HWO.out]; exact hx4, HJ2⟩
              case measure => simp [intOf]; omega
            ·have he' : (kj == (tj : Int)) = false := beq_eq_false_iff_ne.2 he
             have he2 : (kj != (tj : Int)) = true := bne_iff_ne.2 he
             have HM := Lib.hid (may_stop HU.out HKL.out (step_none HND.out (Or.inr (Or.inr (by rw [HMK.out]; exact okKids_bad j HKJ.out HTJ.out (okKid_no1 he))))))
             clear he hwo
             go_wp2
             go_quiet (fail)
             go_wp2
             go_ret
             exact ⟨by rw [HM.out]; rfl, below_drewN (HB.out.trans (HBX.out.mono HB.out.size)) _⟩
           ·have hge : decide ((j : Int) < (m : Int)) = false := by simp; omega
            have HM := Lib.hid (may_go HU.out (step_some HND.out HSHO.out HOS.out (by rw [HMK.out]; exact okKids_upto (by rw [HMK.out, List.length_drop]; omega) (fun i hi k t h1 h2 => HJ.out i (by rw [HMK.out] at hi; omega) k t h1 h2))))
            have hdm : (st.length : Int) - (m : Int) = ((st.length - m : Nat) : Int) := (Int.ofNat_sub hmst).symm
            have hbase : w.heap.size ≤ wr.heap.size := Nat.le_trans HB.out.size HBX.out.size
            have HRD := Lib.hid (((Rd.own HO.out (zints_wf st n HN.out (fun x hx => Nat.lt_trans (HST.out x hx) hkn))).take (Nat.sub_le st.length m)).below (HBX.out.alloc HBX.out.size (.cells #[] 3)))
            have HST2 := Lib.hid (show st.length ≤ 1048576 by have := HN.out; omega)
            have HBB := Lib.hid (HB.out.trans (HBX.out.mono HB.out.size))
            rw [HMK.out] at HM
            have hmint : (m : Int) ≤ (st.length : Int) := Int.ofNat_le.2 hmst
            have hsub : (st.length : Int) - (m : Int) ≤ (cD : Int) := by omega
            clear hBx hwo
            go_wp2_with (first
             | (at_builtin; refine wpList_append_ints rfl (.tmp 111) (.tmp 117) 29 rfl .i64 w.heap.size 3 i0 8 Tryz.underlying29 hi hz0 hz1 hz2 _ 0 [] rfl (World.ownsRow_made wr #[] 0 hbase (by decide) rfl) D (st.length - m) cD ((zints st).take (st.length - m)) rfl HRD.out (by have := HST2.out; have : maxLen = 9223372036854775807 := rfl; omega) (by have := HST2.out; omega) (le_alloc hbase) ?_; intro v1 w1 hown1 hgr1; have hw1 : w.heap.size ≤ w1.heap.size := Nat.le_trans (le_alloc hbase) hgr1.size)
             | (at_builtin; refine wpList_append_ints rfl (.tmp 118) (.tmp 120) 29 rfl .i64 w.heap.size 3 i0 8 Tryz.underlying29 hi hz0 hz1 hz2 _ _ _ rfl (hown1.alloc _) _ 1 1 [(k : Int)] rfl (Rd.lit w1 3 (0, 0) [(k : Int)] (fun z hz => by rw [List.mem_singleton.1 hz]; exact WalkArith.wf_i64 (by omega))) (by have := HST2.out; have : maxLen = 9223372036854775807 := rfl; omega) (by have := HST2.out; omega) (le_alloc hw1) ?_; intro v2 w2 hown2 hgr2))
            go_roundw
            case rel => exact ⟨k + 1, st.take (st.length - m) ++ [k], by omega, by go_num, HM, own_next hown2, may_below HBB.out hbase hgr1 hgr2 (fun q hq => (World.ownsRow_made (e := 3) (size := 1) wr #[] 0 hbase (by decide) rfl).lt q hq |>.1) (fun q hq => (hown1.lt q hq).1)⟩
            case measure => simp [intOf]; omega
         ·have HM := Lib.hid (may_stop HU.out hkl (step_none HND.out (Or.inr (Or.inl (span_bad2 htm hz)))))
          rw [decide_eq_false hz] at HSQ
          have HSQ1 := HSQ.out
          have hgs := guardSpan
          clear hkl h3e hTM hSP htm hz HSQ
          go_wp2_with (first | (go_at_call 57; refine (HA.out _).mono ?_; rintro e w' ⟨rfl, rfl⟩) | (go_at_call 55; refine (HNM.out _).mono ?_; rintro e w' ⟨rfl, rfl⟩) | (go_at_call 58; refine (HTM.out _).mono ?_; rintro e w' ⟨rfl, rfl⟩))
          go_ret
          exact ⟨by rw [HM.out]; rfl, HB.out.alloc HB.out.size _⟩
        ·rw [htm] at hTM
         have HTM := Lib.hid hTM
         rcases hms : Ival.mayS nd.lo nd.hi
         ·rw [hms] at hSP
          have HSP := Lib.hid hSP
          have HM := Lib.hid (may_stop HU.out hkl (step_none HND.out (Or.inr (Or.inl (span_bad1 htm hms)))))
          clear hkl h3e hTM hSP htm hms HSQ
          go_wp2_with (first | (go_at_call 57; refine (HA.out _).mono ?_; rintro e w' ⟨rfl, rfl⟩) | (go_at_call 55; refine (HNM.out _).mono ?_; rintro e w' ⟨rfl, rfl⟩) | (go_at_call 58; refine (HTM.out _).mono ?_; rintro e w' ⟨rfl, rfl⟩) | (go_at_call 59; refine (HSP.out _).mono ?_; rintro e w3 ⟨rfl, hb3⟩; obtain ⟨hc3, hf3⟩ := fcell hb3))
          go_ret
          exact ⟨by rw [HM.out]; rfl, ((HB.out.alloc HB.out.size _).trans (hb3.mono (le_alloc HB.out.size)))⟩
         ·rw [hms] at hSP
          have HSP := Lib.hid hSP
          have HOS := Lib.hid (span_ok1 htm hms)
          clear hkl h3e hTM hSP htm hms HSQ
          go_wp2_with (first | (go_at_call 57; refine (HA.out _).mono ?_; rintro e w' ⟨rfl, rfl⟩) | (go_at_call 55; refine (HNM.out _).mono ?_; rintro e w' ⟨rfl, rfl⟩) | (go_at_call 58; refine (HTM.out _).mono ?_; rintro e w' ⟨rfl, rfl⟩) | (go_at_call 59; refine (HSP.out _).mono ?_; rintro e w3 ⟨rfl, hb3⟩; obtain ⟨hc3, hf3⟩ := fcell hb3))
          have HB3 := Lib.hid hb3
          clear hb3 hc3 hf3
          obtain ⟨wo, hwo⟩ : ∃ wo : World, wo = wr := ⟨_, rfl⟩
          rw [← hwo] at HB HO HNS HRK0 HRT0 HKF
          go_loopw [83] (fun i wx => ∃ j : Nat, j ≤ m ∧ i = .int .i64 j ∧ Below wo.heap.size wo wx ∧ wx.cell? ⟨wo.heap.size, 0, none⟩ = some (.int .i64 nd.kind) ∧ wx.cell? ⟨wo.heap.size, 4, none⟩ = some (.slice K m cK) ∧ Hid (∀ i, i < j → ∀ k t, nd.kids[i]? = some k → (st.drop (st.length - m))[i]? = some t → okKid l nd k t = true)) (fun i _ => m - (intOf i).toNat)
          case atStart => exact ⟨0, Nat.zero_le _, rfl, by rw [hwo]; exact ((Below.refl _ _).alloc (Nat.le_refl _) _).trans (HB3.out.mono (by simp)), by rw [hwo]; exact below_cell HB3.out (box_cell 0 _ rfl), by rw [hwo]; exact below_cell HB3.out (box_cell 4 _ rfl), fun i hi => absurd hi (by omega)⟩
          case round =>
           obtain ⟨j, hj, rfl, hBx, hx0, hx4, HJ⟩ := hrel
           rw [hwo] at hx0 hx4
           have HBX := Lib.hid hBx
           by_cases hjm : j < m
           ·have hjm' : (j : Int) < (m : Int) := by omega
            have hj0 : (0 : Int) ≤ (j : Int) := by omega
            obtain ⟨kj, tj, x, hkj, htj, hkj', htj', htn, hxl, hnode⟩ := HKF.out j hjm
            obtain ⟨bk, ok, eK, hkc⟩ := (HRK0.out.below hBx).cell (by omega)
            obtain ⟨bt, ot, eT, htc⟩ := (HRT0.out.below hBx).cell (by omega)
            have ck := hkc j hjm
            have ct := htc j hjm
            have cn := below_cell hBx hnode
            rw [hkj'] at ck
            rw [htj'] at ct
            have HF := Lib.hid (fun W => refFits nd.kind x.kind W)
            have htn' : (tj : Int) < (n : Int) := by omega
            have ht0 : (0 : Int) ≤ (tj : Int) := by omega
            have HKJ := Lib.hid hkj
            have HTJ := Lib.hid htj
            have HXL := Lib.hid hxl
            subst eK
            subst eT
            clear hkc htc hnode hkj htj hkj' htj' hxl hBx
            by_cases he : kj = (tj : Int)
            ·rcases hfi : fits nd.kind x.kind
             ·rw [hfi] at HF
              have he' : (kj != (tj : Int)) = false := by rw [he]; simp
              have HM := Lib.hid (may_stop HU.out HKL.out (step_none HND.out (Or.inr (Or.inr (by rw [HMK.out]; exact okKids_bad j HKJ.out HTJ.out (okKid_no2 HXL.out hfi))))))
              clear he hfi hwo
              go_wp2
              go_quiet ((go_at_call 60; refine (HF.out _).mono ?_; rintro e w' ⟨rfl, rfl⟩; exact ⟨rfl, _, rfl⟩))
              go_wp2
              go_ret
              exact ⟨by rw [HM.out]; rfl, below_drewN (HB.out.trans (HBX.out.mono HB.out.size)) _⟩
             ·rw [hfi] at HF
              have he' : (kj != (tj : Int)) = false := by rw [he]; simp
              have HJ2 := Lib.hid (show ∀ i, i < j + 1 → ∀ k t, nd.kids[i]? = some k → (st.drop (st.length - m))[i]? = some t → okKid l nd k t = true from fun i hi k t h1 h2 => by
               by_cases hij : i = j
               ·subst hij
                have e1 := HKJ.out.symm.trans h1
                have e2 := HTJ.out.symm.trans h2
                injection e1 with e1
                injection e2 with e2
                subst e1; subst e2
                exact okKid_yes HXL.out he hfi
               ·exact HJ.out i (by omega) k t h1 h2)
              have HWO := Lib.hid hwo
              clear he hfi hwo
              go_wp2
              go_quiet ((go_at_call 60; refine (HF.out _).mono ?_; rintro e w' ⟨rfl, rfl⟩; exact ⟨rfl, _, rfl⟩))
              go_wp2
              go_roundw
              case rel => exact ⟨j + 1, by omega, by go_num, below_drewN HBX.out _, by rw [HWO.out]; exact hx0, by rw [HWO.out]; exact hx4, HJ2⟩
              case measure => simp [intOf]; omega
            ·have he' : (kj == (tj : Int)) = false := beq_eq_false_iff_ne.2 he
             have he2 : (kj != (tj : Int)) = true := bne_iff_ne.2 he
             have HM := Lib.hid (may_stop HU.out HKL.out (step_none HND.out (Or.inr (Or.inr (by rw [HMK.out]; exact okKids_bad j HKJ.out HTJ.out (okKid_no1 he))))))
             clear he hwo
             go_wp2
             go_quiet (fail)
             go_wp2
             go_ret
             exact ⟨by rw [HM.out]; rfl, below_drewN (HB.out.trans (HBX.out.mono HB.out.size)) _⟩
           ·have hge : decide ((j : Int) < (m : Int)) = false := by simp; omega
            have HM := Lib.hid (may_go HU.out (step_some HND.out HSHO.out HOS.out (by rw [HMK.out]; exact okKids_upto (by rw [HMK.out, List.length_drop]; omega) (fun i hi k t h1 h2 => HJ.out i (by rw [HMK.out] at hi; omega) k t h1 h2))))
            have hdm : (st.length : Int) - (m : Int) = ((st.length - m : Nat) : Int) := (Int.ofNat_sub hmst).symm
            have hbase : w.heap.size ≤ wr.heap.size := Nat.le_trans HB.out.size HBX.out.size
            have HRD := Lib.hid (((Rd.own HO.out (zints_wf st n HN.out (fun x hx => Nat.lt_trans (HST.out x hx) hkn))).take (Nat.sub_le st.length m)).below (HBX.out.alloc HBX.out.size (.cells #[] 3)))
            have HST2 := Lib.hid (show st.length ≤ 1048576 by have := HN.out; omega)
            have HBB := Lib.hid (HB.out.trans (HBX.out.mono HB.out.size))
            rw [HMK.out] at HM
            have hmint : (m : Int) ≤ (st.length : Int) := Int.ofNat_le.2 hmst
            have hsub : (st.length : Int) - (m : Int) ≤ (cD : Int) := by omega
            clear hBx hwo
            go_wp2_with (first
             | (at_builtin; refine wpList_append_ints rfl (.tmp 111) (.tmp 117) 29 rfl .i64 w.heap.size 3 i0 8 Tryz.underlying29 hi hz0 hz1 hz2 _ 0 [] rfl (World.ownsRow_made wr #[] 0 hbase (by decide) rfl) D (st.length - m) cD ((zints st).take (st.length - m)) rfl HRD.out (by have := HST2.out; have : maxLen = 9223372036854775807 := rfl; omega) (by have := HST2.out; omega) (le_alloc hbase) ?_; intro v1 w1 hown1 hgr1; have hw1 : w.heap.size ≤ w1.heap.size := Nat.le_trans (le_alloc hbase) hgr1.size)
             | (at_builtin; refine wpList_append_ints rfl (.tmp 118) (.tmp 120) 29 rfl .i64 w.heap.size 3 i0 8 Tryz.underlying29 hi hz0 hz1 hz2 _ _ _ rfl (hown1.alloc _) _ 1 1 [(k : Int)] rfl (Rd.lit w1 3 (0, 0) [(k : Int)] (fun z hz => by rw [List.mem_singleton.1 hz]; exact WalkArith.wf_i64 (by omega))) (by have := HST2.out; have : maxLen = 9223372036854775807 := rfl; omega) (by have := HST2.out; omega) (le_alloc hw1) ?_; intro v2 w2 hown2 hgr2))
            go_roundw
            case rel => exact ⟨k + 1, st.take (st.length - m) ++ [k], by omega, by go_num, HM, own_next hown2, may_below HBB.out hbase hgr1 hgr2 (fun q hq => (World.ownsRow_made (e := 3) (size := 1) wr #[] 0 hbase (by decide) rfl).lt q hq |>.1) (fun q hq => (hown1.lt q hq).1)⟩
            case measure => simp [intOf]; omega
       ·have hn1 : nd.name.toList.isEmpty = false := by
         rw [ByteArray.toList_eq]
         cases hx : nd.name.data.toList with
         | nil => exact absurd hx hne
         | cons => rfl
        have HM := Lib.hid (may_stop HU.out hkl (step_none HND.out (Or.inl (shape_bad5 h3e hne))))
        clear hkl ho ha h3e hNM hTM hSP hne
        go_wp2_with (first | (go_at_call 57; refine (HA.out _).mono ?_; rintro e w' ⟨rfl, rfl⟩) | (go_at_call 55; refine (HNM.out _).mono ?_; rintro e w' ⟨rfl, rfl⟩))
        go_ret
        exact ⟨by rw [HM.out]; rfl, HB.out.alloc HB.out.size _⟩
     ·have HM := Lib.hid (may_stop HU.out hkl (step_none HND.out (Or.inl (shape_bad3 (by rw [hae]; exact ho)))))
      have ho' : decide ((st.length : Int) < a) = true := decide_eq_true (by omega)
      have hm' : ((nd.kids.length : Int) != a) = false := by rw [hm]; simp
      clear hae hkl hm ho ha hNM hTM hSP
      go_wp2_with (first | (go_at_call 57; refine (HA.out _).mono ?_; rintro e w' ⟨rfl, rfl⟩))
      go_ret
      exact ⟨by rw [HM.out]; rfl, HB.out.alloc HB.out.size _⟩
    ·have HM := Lib.hid (may_stop HU.out hkl (step_none HND.out (Or.inl (shape_bad2 (by rw [hae]; exact hm)))))
     have hm' : ((nd.kids.length : Int) == a) = false := beq_eq_false_iff_ne.2 hm
     clear hae hkl ha hNM hTM hSP
     go_wp2_with (first | (go_at_call 57; refine (HA.out _).mono ?_; rintro e w' ⟨rfl, rfl⟩))
     go_ret
     exact ⟨by rw [HM.out]; rfl, HB.out.alloc HB.out.size _⟩
  ·have e : k = n := by omega
   subst e
   have hge : decide ((k : Int) < (k : Int)) = false := by simp
   have HM := Lib.hid (may_end (l := l) (st := st) (by rw [HL.out]; exact HU.out))
   by_cases h1 : st.length = 1
   ·have h1' : ((st.length : Int) == 1) = true := by rw [h1]; rfl
    rw [decide_eq_true h1] at HM
    clear h1
    go_wp2
    go_ret
    exact ⟨by rw [HM.out]; rfl, HB.out⟩
   ·have h1' : ((st.length : Int) == 1) = false := beq_eq_false_iff_ne.2 (by omega)
    rw [decide_eq_false h1] at HM
    clear h1
    go_wp2
    go_ret
    exact ⟨by rw [HM.out]; rfl, HB.out⟩
end Go.Proofs.YtdbgaccnejffpaaGreat.Tree
