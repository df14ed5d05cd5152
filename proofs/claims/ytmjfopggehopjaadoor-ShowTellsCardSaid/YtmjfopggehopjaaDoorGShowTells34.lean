/-
  The part of ShowNest that speaks of functions which not every seat has. By an AI agent.
-/
import Derived.Test.YtmjfopggehopjaaDoorGShowTells22
import Derived.Test.YtmjfopggehopjaaDoorGShowTells30
import Derived.Test.YtmjfopggehopjaaDoorGShowTells32
import Derived.Test.YtmjfopggehopjaaDoorGShowTells29
namespace Go.Proofs.YtmjfopggehopjaaDoor.Show
open Go.RowKit Go.Proofs.YtmjfopggehopjaaDoor.Tree Go.Proofs.YtmjfopggehopjaaDoor.Itoa Go.Proofs.YtmjfopggehopjaaDoor.Ints
open Go.Proofs.YtmjfopggehopjaaDoor.Parse (Blk Blk.new)

set_option maxHeartbeats 40000000 in
set_option maxRecDepth 100000 in
theorem refNest (A : Option Addr) (n c : Nat) (l : List Nd) (w : World) (hl : l.length = n) (hn : n ≤ 1048576) (h : Nodes Any w A l) :
    Calls Tryd.prog 10 #[.slice A n c] w fun e w' => e = .returned (.int .i64 (nestL l : Int)) ∧ Below w.heap.size w w' := by
  obtain ⟨i0, hi, hz0, hz1, hz2⟩ := info_parts infoInt
  have hni : (n : Int) ≤ 1048576 := by omega
  have hM := fun W (hb : Below w.heap.size w W) => refMay A n c l W hl hn (h.below hb)
  have HL := Lib.hid hl
  have HD := Lib.hid h
  have HN := Lib.hid hn
  clear hl hn h
  rcases hm : mayL l
  · have HR := Lib.hid (show nestL l = 0 by unfold nestL; rw [hm]; rfl)
    rw [hm] at hM
    have HM := Lib.hid hM
    clear hM hm
    go_enter Tryd.func10, Tryd.ntmps10
    go_wp2_with (go_at_call 17; refine (HM.out _ (Below.refl _ _)).mono ?_; rintro e w1 ⟨rfl, hb1⟩)
    refine bodyPost_ret (v := .int .i64 0) (by simp [results, Tryd.results10, go_sem]) rfl ?_
    exact ⟨by rw [HR.out]; rfl, hb1⟩
  · have h0 := may_ne hm
    have hn0 : 0 < n := by rw [← HL.out]; exact h0
    have HR := Lib.hid (show nestL l = nst l (l.length - 1) from if_pos hm)
    have HMY := Lib.hid hm
    rw [hm] at hM
    have HM := Lib.hid hM
    have b1 : i0.bytes * n ≤ 281474976710656 := by rw [hz2]; have := HN.out; omega
    have b2 : n ≤ maxLen := by unfold maxLen; have := HN.out; omega
    have hn1 : (1 : Int) ≤ (n : Int) := by omega
    have hnn : (0 : Int) ≤ (n : Int) := by omega
    clear hM hm h0
    go_enter Tryd.func10, Tryd.ntmps10
    go_wp2_with (first
      | (go_at_call 17; refine (HM.out _ (Below.refl _ _)).mono ?_; rintro e w1 ⟨rfl, hb1⟩)
      | (at_make; refine wpList_make_full _ rfl _ _ 32 rfl w1.heap.size 3 i0 (.int .i64 0) 1 Tryd.underlying32 hi hz0 hz1 .i64 .i64 _ _ n rfl rfl (by first | rfl | omega) (by first | rfl | omega) b1 b2 (Nat.le_refl _) ?_; intro w2 hmade hgr1; rw [made_nests] at hmade))
    have hw1 : w.heap.size ≤ w1.heap.size := hb1.size
    have hB2 : Below w.heap.size w w2 := hb1.trans (((Below.refl _ _).grown hgr1 (Nat.le_refl _) (by simp)).mono hw1)
    rw [nRow_start n l hn0] at hmade
    have HMD := Lib.hid hmade
    have HB2 := Lib.hid hB2
    clear hmade hB2 hgr1 hb1
    obtain ⟨g, hg⟩ : ∃ g, w1.heap.size = g := ⟨_, rfl⟩
    rw [hg] at hw1 HMD ⊢
    clear hg
    go_loopw [17] (fun i wr => ∃ k : Nat, k ≤ n ∧ i = .int .i64 k ∧ Hid (wr.ownsRow g 3 1 (.slice (some ⟨g, 0, none⟩) n n) n ((nAt n k l).map (Value.int .i64))) ∧ Hid (Below w.heap.size w wr)) (fun i _ => n - (intOf i).toNat)
    case atStart => exact ⟨0, Nat.zero_le _, rfl, HMD.out, HB2.out⟩
    case round =>
      obtain ⟨k, hk, rfl, HRW, HB⟩ := hrel
      by_cases hkn : k < n
      · have hkn' : (k : Int) < (n : Int) := by omega
        have hk0 : (0 : Int) ≤ (k : Int) := by omega
        obtain ⟨b, off, e, hnodes⟩ := HD.out (by have := HL.out; omega)
        obtain ⟨nd, hnd⟩ : ∃ nd, l[k]? = some nd := ⟨_, List.getElem?_eq_getElem (by have := HL.out; omega)⟩
        obtain ⟨x0, x1, x2, x3, s0, s2, s3, s1, K, cK, x4, hK, hKc, hcK, -, -⟩ := hnodes k nd hnd
        rw [Nat.mul_comm 5 k] at x0 x1 x2 x3 x4
        replace x0 := below_cell HB.out x0
        replace x1 := below_cell HB.out x1
        replace x2 := below_cell HB.out x2
        replace x3 := below_cell HB.out x3
        replace x4 := below_cell HB.out x4
        have HNS := Lib.hid hnodes
        have HND := Lib.hid hnd
        obtain ⟨m, hm⟩ : ∃ m, nd.kids.length = m := ⟨_, rfl⟩
        rw [hm] at x4 hK hKc
        have HMK := Lib.hid hm
        have hm2 : m ≤ 2 := by rw [← hm]; exact may_arity HMY.out hnd
        have HRK := Lib.hid hK
        have hm64 : (m : Int) ≤ 9223372036854775807 := by omega
        have HBX := Lib.hid (HB.out.alloc HB.out.size (.cells #[.int .i64 nd.kind, .string nd.name, .int .i64 nd.lo, .int .i64 nd.hi, .slice K m cK] 34))
        have HGW := Lib.hid (show g < wr.heap.size from (HRW.out.lt g rfl).2)
        have HBK := Lib.hid (Blk.new wr #[.int .i64 nd.kind, .string nd.name, .int .i64 nd.lo, .int .i64 nd.hi, .slice K m cK] 34 _ rfl)
        have HR0 := Lib.hid (show (wr.alloc (.cells #[.int .i64 nd.kind, .string nd.name, .int .i64 nd.lo, .int .i64 nd.hi, .slice K m cK] 34)).ownsRow g 3 1 (.slice (some ⟨g, 0, none⟩) n n) n ((nRow n k l (kidsN (nestsTo l k) l nd 0 (nd.kids.take 0))).map (Value.int .i64)) by
          have := HRW.out
          unfold nAt at this
          rw [if_pos hkn] at this
          exact this.alloc _)
        subst e
        clear hnd hnodes hK hm
        go_wp2
        obtain ⟨X, hX⟩ : ∃ X, wr.heap.size = X := ⟨_, rfl⟩
        have HXG := Lib.hid (show X ≠ g by have := HGW.out; omega)
        rw [hX] at HBK ⊢
        clear hX x0 x1 x2 x3 x4
        go_loopw [25] (fun i wx => ∃ j : Nat, j ≤ m ∧ i = .int .i64 j ∧ Hid (wx.ownsRow g 3 1 (.slice (some ⟨g, 0, none⟩) n n) n ((nRow n k l (kidsN (nestsTo l k) l nd 0 (nd.kids.take j))).map (Value.int .i64))) ∧ Hid (Below w.heap.size w wx) ∧ Hid (Blk wx X [.int .i64 nd.kind, .string nd.name, .int .i64 nd.lo, .int .i64 nd.hi, .slice K m cK])) (fun i _ => m - (intOf i).toNat)
        case atStart => exact ⟨0, Nat.zero_le _, rfl, HR0.out, HBX.out, HBK.out⟩
        case round =>
          obtain ⟨j, hj, rfl, HRJ, HBJ, HKJ⟩ := hrel
          by_cases hjm : j < m
          · have hjm' : (j : Int) < (m : Int) := by omega
            obtain ⟨t, ht, htk, htake⟩ := kid_nat HMY.out HND.out (j := j) (by rw [HMK.out]; exact hjm)
            obtain ⟨nt, hnt⟩ : ∃ nt, l[t]? = some nt := ⟨_, List.getElem?_eq_getElem (by have := HL.out; omega)⟩
            have hka : kindAt l (t : Int) = nt.kind := by unfold kindAt; rw [Int.toNat_natCast, hnt]; rfl
            have y0 := below_cell HBJ.out (HNS.out t nt hnt).1
            rw [Nat.mul_comm 5 t] at y0
            have x0 := HKJ.out.cell 0 rfl
            have hc1 := own_cell HRJ.out hkn
            have hc2 := own_cell HRJ.out (show t < n by omega)
            have hf1 := HRJ.out.frozenAt k
            rw [nRow_at HL.out hkn] at hc1
            rw [nRow_low HL.out hkn htk] at hc2
            obtain ⟨v, hv⟩ : ∃ v, kidsN (nestsTo l k) l nd 0 (nd.kids.take j) = v := ⟨_, rfl⟩
            obtain ⟨u, hu⟩ : ∃ u, nst l t = u := ⟨_, rfl⟩
            have hub := nst_bound HMY.out t (by have := HL.out; omega)
            rw [hv] at hc1
            rw [hu] at hc2 hub
            have hui : (u : Int) ≤ 4194304 := by omega
            have hu0 : (0 : Int) ≤ (u : Int) := by omega
            have htn : (t : Int) < (n : Int) := by omega
            have ht0 : (0 : Int) ≤ (t : Int) := by omega
            have hj0 : (0 : Int) ≤ (j : Int) := by omega
            obtain ⟨bk, ok, eK, hkc⟩ := (HRK.out.below HBJ.out).cell (by omega)
            have ck := hkc j hjm
            rw [ht] at ck
            subst eK
            have HBA := Lib.hid (fun W => refBare nd.kind nt.kind j W (by omega))
            have HKX := Lib.hid (show kidsN (nestsTo l k) l nd 0 (nd.kids.take (j + 1)) = max v (u + if bare nd.kind j nt.kind = true then 0 else 1) by
              rw [htake, kidsN_snoc, List.length_take, HMK.out, show 0 + min j m = j by omega, kidN_at htk (by have := HL.out; omega), hv]
              unfold kidD
              rw [hu, hka])
            have HV := Lib.hid hv
            have HST := Lib.hid (fun (x : Nat) (y : Int) (hxy : (x : Int) = y) (wy : World) (hr : wy.ownsRow g 3 1 (.slice (some ⟨g, 0, none⟩) n n) n ((nRow n k l v).map (Value.int .i64))) => show Hid ((wy.setCell ⟨g, k, none⟩ (.int .i64 y)).ownsRow g 3 1 (.slice (some ⟨g, 0, none⟩) n n) n ((nRow n k l x).map (Value.int .i64))) by
              subst hxy
              have := own_set hr k (x : Int)
              rw [nRow_set HL.out hkn] at this
              exact this)
            have HRV := Lib.hid (by have := HRJ.out; rw [hv] at this; exact this)
            clear hkc ht htake hnt hka hub hv hu
            obtain ⟨bb, hbb⟩ : ∃ bb, bare nd.kind j nt.kind = bb := ⟨_, rfl⟩
            rw [hbb] at HBA HKX
            clear hbb
            cases bb
            all_goals
              go_wp2_with fail
              go_quiet ((go_at_call 18; exact quiet_left ⟨_, rfl⟩ (HBA.out _)))
              go_wp2_with fail
              go_roundw
              case rel => exact ⟨j + 1, by omega, by go_num, by rw [HKX.out]; exact HST.out _ _ (by simp; try omega) _ (below_row HRV.out (belN _ _ _)), (HBJ.out.trans (belN _ _ _)).setCell hw1 _, (HKJ.out.drewN _).other ⟨g, k, none⟩ _ HXG.out⟩
              case measure => simp [intOf]; omega
          · have e : j = m := by omega
            subst e
            have hge : decide ((j : Int) < (j : Int)) = false := by simp
            have htk : nd.kids.take j = nd.kids := List.take_of_length_le (by rw [HMK.out]; exact Nat.le_refl _)
            have hrj := HRJ.out
            rw [htk] at hrj
            obtain ⟨v, hv⟩ : ∃ v, kidsN (nestsTo l k) l nd 0 nd.kids = v := ⟨_, rfl⟩
            rw [hv] at hrj
            have hnv : nst l k = v + if deeper nd.kind = true then 1 else 0 := by rw [nst_node HND.out, hv]; rfl
            have hnb := nst_bound HMY.out k (by have := HL.out; omega)
            have hv1 : (v : Int) ≤ 4194304 := by omega
            have hv0 : (0 : Int) ≤ (v : Int) := by omega
            have hc1 := own_cell hrj hkn
            have hf1 := hrj.frozenAt k
            rw [nRow_at HL.out hkn] at hc1
            have x0 := HKJ.out.cell 0 rfl
            have HRV := Lib.hid hrj
            have HNX := Lib.hid (nRow_next (n := n) HL.out HND.out)
            clear hrj htk hv hnb
            obtain ⟨dd, hdd⟩ : ∃ dd, deeper nd.kind = dd := ⟨_, rfl⟩
            rw [hdd] at hnv
            cases dd
            · have HNV := Lib.hid (show nst l k = v from hnv)
              obtain ⟨a1, a2, a3, a4, a5, a6, a7, a8, a9, a10⟩ := deeper_not hdd
              clear hnv hdd
              go_wp2_with fail
              go_roundw
              case rel => exact ⟨k + 1, by omega, by go_num, by rw [← HNX.out, HNV.out]; exact HRV.out, HBJ.out⟩
              case measure => simp [intOf]; omega
            · have HNV := Lib.hid (show nst l k = v + 1 from hnv)
              have hway := deeper_ways hdd
              clear hnv hdd
              rcases hway with hk1 | hk1 | hk1 | hk1 | hk1 | hk1 | hk1 | hk1 | hk1 | hk1
              all_goals
                rw [hk1] at x0
                clear hk1
                go_wp2_with fail
                go_roundw
                case rel => exact ⟨k + 1, by omega, by go_num, by
                  rw [← HNX.out, HNV.out]
                  have := own_set HRV.out k ((v + 1 : Nat) : Int)
                  rw [nRow_set HL.out hkn] at this
                  exact this, HBJ.out.setCell hw1 _⟩
                case measure => simp [intOf]; omega
      · have e : k = n := by omega
        subst e
        have hge : decide ((k : Int) < (k : Int)) = false := by simp
        have hrow := HRW.out
        unfold nAt at hrow
        rw [if_neg (by omega)] at hrow
        have hc1 := own_cell hrow (show k - 1 < k by omega)
        rw [ints_at (by rw [nestsTo_len (by rw [HL.out]; exact Nat.le_refl _)]; omega), nestsTo_low (show k - 1 < k by omega) (by rw [HL.out]; exact Nat.le_refl _)] at hc1
        have hlast : nst l (k - 1) = nestL l := by rw [HR.out, HL.out]
        rw [hlast] at hc1
        have hk1 : (0 : Int) ≤ (k : Int) - 1 := by omega
        have hk2 : ((k : Int) - 1).toNat = k - 1 := by omega
        clear hrow hlast
        go_wp2_with fail
        refine bodyPost_ret (v := .int .i64 (nestL l : Int)) (by simp [results, Tryd.results10, go_sem]) rfl ?_
        exact ⟨rfl, HB.out⟩
end Go.Proofs.YtmjfopggehopjaaDoor.Show
