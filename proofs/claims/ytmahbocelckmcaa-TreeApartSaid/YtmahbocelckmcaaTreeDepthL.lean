/-
  The walk of the landed tree's Depth. By an AI agent.
-/
import Derived.Test.YtmahbocelckmcaaTreeDepth
import Derived.Test.YtmahbocelckmcaaTreeMayL
namespace Go.Proofs.Ytmahbocelckmcaa.Tree
open Go.RowKit Go.Proofs.Ytmahbocelckmcaa.Ints

set_option maxHeartbeats 8000000 in
set_option maxRecDepth 100000 in
theorem landDepth (A : Option Addr) (n c : Nat) (l : List Nd) (w : World) (hl : l.length = n) (hn : n ≤ 1048576) (h : Nodes Any w A l) :
    Calls Try.prog 21 #[.slice A n c] w fun e w' => e = .returned (.int .i64 (depthL l)) ∧ Below w.heap.size w w' := by
  obtain ⟨i0, hi, hz0, hz1, hz2⟩ := info_parts infoInt
  have hni : (n : Int) ≤ 1048576 := by omega
  have hM := fun W (hb : Below w.heap.size w W) => landMay A n c l W hl hn (h.below hb)
  have HL := Lib.hid hl
  have HD := Lib.hid h
  have HN := Lib.hid hn
  clear hl hn h
  rcases hm : mayL l
  · have HR := Lib.hid (show depthL l = 0 by unfold depthL; rw [hm]; rfl)
    rw [hm] at hM
    have HM := Lib.hid hM
    clear hM hm
    go_enter Try.func21, Try.ntmps21
    go_wp2_with (go_at_call 27; refine (HM.out _ (Below.refl _ _)).mono ?_; rintro e w1 ⟨rfl, hb1⟩)
    go_ret
    exact ⟨by rw [HR.out]; rfl, hb1⟩
  · have h0 := may_ne hm
    have hn0 : 0 < n := by rw [← HL.out]; exact h0
    have HR := Lib.hid (show depthL l = (depths l).getLast?.getD 0 by unfold depthL; rw [if_pos hm])
    have HMY := Lib.hid hm
    rw [hm] at hM
    have HM := Lib.hid hM
    have b1 : i0.bytes * n ≤ 281474976710656 := by rw [hz2]; have := HN.out; omega
    have b2 : n ≤ maxLen := by unfold maxLen; have := HN.out; omega
    have hn1 : (1 : Int) ≤ (n : Int) := by omega
    have hnn : (0 : Int) ≤ (n : Int) := by omega
    clear hM hm h0
    go_enter Try.func21, Try.ntmps21
    go_wp2_with (first
      | (go_at_call 27; refine (HM.out _ (Below.refl _ _)).mono ?_; rintro e w1 ⟨rfl, hb1⟩)
      | (at_make; refine wpList_make_full _ rfl _ _ 31 rfl w1.heap.size 3 i0 (.int .i64 0) 1 Try.underlying31 hi hz0 hz1 .i64 .i64 _ _ n rfl rfl (by first | rfl | omega) (by first | rfl | omega) b1 b2 (Nat.le_refl _) ?_; intro w2 hmade hgr1; rw [made_ints] at hmade))
    have hw1 : w.heap.size ≤ w1.heap.size := hb1.size
    have hB2 : Below w.heap.size w w2 := hb1.trans (((Below.refl _ _).grown hgr1 (Nat.le_refl _) (by simp)).mono hw1)
    rw [dRow_start n l hn0] at hmade
    have HMD := Lib.hid hmade
    have HB2 := Lib.hid hB2
    clear hmade hB2 hgr1 hb1
    obtain ⟨g, hg⟩ : ∃ g, w1.heap.size = g := ⟨_, rfl⟩
    rw [hg] at hw1 HMD ⊢
    clear hg
    go_loopw [17] (fun i wr => ∃ k : Nat, k ≤ n ∧ i = .int .i64 k ∧ wr.ownsRow g 3 1 (.slice (some ⟨g, 0, none⟩) n n) n ((dAt n k l).map (Value.int .i64)) ∧ Below w.heap.size w wr) (fun i _ => n - (intOf i).toNat)
    case atStart => exact ⟨0, Nat.zero_le _, rfl, by unfold dAt; rw [if_pos hn0]; exact HMD.out, HB2.out⟩
    case round =>
      obtain ⟨k, hk, rfl, hrow, hB⟩ := hrel
      have HRW := Lib.hid hrow
      have HB := Lib.hid hB
      clear hrow hB
      by_cases hkn : k < n
      · have hkn' : (k : Int) < (n : Int) := by omega
        have hk0 : (0 : Int) ≤ (k : Int) := by omega
        obtain ⟨b, off, e, hnodes⟩ := HD.out (by have := HL.out; omega)
        obtain ⟨nd, hnd⟩ : ∃ nd, l[k]? = some nd := ⟨_, List.getElem?_eq_getElem (by have := HL.out; omega)⟩
        obtain ⟨x0, x1, x2, x3, s0, s2, s3, s1, K, cK, x4, hK, hKc, hcK, -, -⟩ := hnodes k nd hnd
        rw [Nat.mul_comm 5 k] at x0 x1 x2 x3 x4
        replace x0 := below_cell HB.out x0
        replace x1 := below_cell HB.out x1
        replace x2 := below_cell HB.out x2
        replace x3 := below_cell HB.out x3
        replace x4 := below_cell HB.out x4
        have HND := Lib.hid hnd
        obtain ⟨m, hm⟩ : ∃ m, nd.kids.length = m := ⟨_, rfl⟩
        rw [hm] at x4 hK hKc
        have HMK := Lib.hid hm
        have HRK := Lib.hid hK
        have hm64 : (m : Int) ≤ 9223372036854775807 := by have : maxLen = 9223372036854775807 := rfl; omega
        subst e
        clear hnd hnodes hK hm
        go_wp2
        obtain ⟨wo, hwo⟩ : ∃ wo : World, wo = wr := ⟨_, rfl⟩
        rw [← hwo] at HRW HB
        have hrow0 := HRW.out
        unfold dAt at hrow0
        rw [if_pos hkn] at hrow0
        have HRW0 := Lib.hid hrow0
        clear hrow0
        go_loop [6, 25] (fun bv i => ∃ j : Nat, j ≤ m ∧ i = .int .i64 j ∧ bv = .int .i64 (deep (depths (l.take k)) (nd.kids.take j))) (fun _ i => m - (intOf i).toNat)
        case atStart => exact ⟨0, Nat.zero_le _, rfl, rfl⟩
        case round =>
          obtain ⟨j, hj, rfl, rfl⟩ := hrel
          by_cases hjm : j < m
          · have hjm' : (j : Int) < (m : Int) := by omega
            obtain ⟨t, ht, htk, htake⟩ := kid_nat HMY.out HND.out (j := j) (by rw [HMK.out]; exact hjm)
            have hc2 := own_cell (HRW0.out.alloc (.cells #[.int .i64 nd.kind, .string nd.name, .int .i64 nd.lo, .int .i64 nd.hi, .slice K m cK] 33)) (show t < n by omega)
            rw [dRow_low HL.out hkn htk] at hc2
            obtain ⟨v, hv⟩ : ∃ v, deep (depths (l.take k)) (nd.kids.take j) = v := ⟨_, rfl⟩
            obtain ⟨u, hu⟩ : ∃ u, (depths (l.take k))[t]?.getD 0 = u := ⟨_, rfl⟩
            rw [hu] at hc2
            have htn : (t : Int) < (n : Int) := by omega
            have ht0 : (0 : Int) ≤ (t : Int) := by omega
            obtain ⟨bk, ok, eK, hkc⟩ := (HRK.out.below (HB.out.alloc HB.out.size (.cells #[.int .i64 nd.kind, .string nd.name, .int .i64 nd.lo, .int .i64 nd.hi, .slice K m cK] 33))).cell (by omega)
            have ck := hkc j hjm
            rw [ht] at ck
            clear hkc
            subst eK
            rw [hwo] at hc2 ck
            have HV := Lib.hid hv
            have HU := Lib.hid hu
            have HT := Lib.hid htake
            rw [hv]
            clear hv hu htake ht
            go_wp2
            go_round
            case rel =>
              refine ⟨j + 1, by omega, by go_num, ?_⟩
              rw [HT.out, deep_snoc, HV.out, Int.toNat_natCast, HU.out]
            case measure => simp [intOf]; omega
          · have e : j = m := by omega
            have hge : decide ((j : Int) < (m : Int)) = false := by simp; omega
            have htk : nd.kids.take j = nd.kids := List.take_of_length_le (by rw [HMK.out]; omega)
            rw [htk]
            obtain ⟨v, hv⟩ : ∃ v, deep (depths (l.take k)) nd.kids = v := ⟨_, rfl⟩
            have hvb := deep_bound (B := (k : Int)) (by omega) (depths_bound l k (by have := HL.out; omega)) nd.kids
            rw [hv] at hvb ⊢
            have hvb1 : 0 ≤ v := hvb.1
            have hvb2 : v ≤ 1048576 := by omega
            have hrowa := HRW0.out.alloc (.cells #[.int .i64 nd.kind, .string nd.name, .int .i64 nd.lo, .int .i64 nd.hi, .slice K m cK] 33)
            have hc1 := own_cell hrowa hkn
            have hf1 := hrowa.frozenAt k
            rw [hwo] at hc1 hf1
            have HRX := Lib.hid hrowa
            have HV := Lib.hid hv
            have HWO := Lib.hid hwo
            clear hv htk hvb e hrowa hwo
            go_wp2
            go_roundw
            case rel =>
              refine ⟨k + 1, by omega, by go_num, ?_, ?_⟩
              · have := own_set HRX.out k (v + 1)
                rw [dRow_set HL.out hkn, ← HV.out, dAt_next HL.out hkn HND.out, HWO.out] at this
                rw [← HV.out]
                exact this
              · have := (HB.out.alloc HB.out.size (.cells #[.int .i64 nd.kind, .string nd.name, .int .i64 nd.lo, .int .i64 nd.hi, .slice K m cK] 33)).setCell (p := ⟨g, k, none⟩) hw1 (.int .i64 (v + 1))
                rw [HWO.out] at this
                exact this
            case measure => simp [intOf]; omega
      · have e : k = n := by omega
        have hge : decide ((k : Int) < (n : Int)) = false := by simp; omega
        have hn1' : (0 : Int) ≤ (n : Int) - 1 := by omega
        have hrow := HRW.out
        unfold dAt at hrow
        rw [if_neg hkn] at hrow
        have hc1 := own_cell hrow (show n - 1 < n by omega)
        have hlast : (depths l)[n - 1]?.getD 0 = depthL l := by
          rw [HR.out, List.getLast?_eq_getElem?, depths_len, HL.out]
        rw [hlast] at hc1
        clear hrow hlast e
        go_wp2
        go_ret
        exact ⟨rfl, HB.out⟩
end Go.Proofs.Ytmahbocelckmcaa.Tree
