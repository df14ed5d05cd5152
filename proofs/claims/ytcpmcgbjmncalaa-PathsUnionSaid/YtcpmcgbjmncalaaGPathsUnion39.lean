/-
  The walk of the landed tree's May. By an AI agent.
  The walk of the reference's Plain. By an AI agent.
  The walk of the reference's SameNodes. By an AI agent.
  The walk of the reference's Same. By an AI agent.
  The walks of the landed tree's Form, Reg, Plain and Same. By an AI agent.
-/
import Derived.Test.YtcpmcgbjmncalaaGPathsUnion38
import Derived.Deep.RegionWith
import Derived.Test.YtcpmcgbjmncalaaGPathsUnion9
import Derived.Test.YtcpmcgbjmncalaaGPathsUnion8
import Derived.Test.YtcpmcgbjmncalaaGPathsUnion7
import Derived.Test.YtcpmcgbjmncalaaGPathsUnion4
import Derived.Deep.RegionHeld3
import Derived.Test.YtcpmcgbjmncalaaGPathsUnion12
import Derived.Shelf.Abstract
namespace Go.Proofs.Ytcpmcgbjmncalaa.Tree
open Go.RowKit Go.Proofs.Ytcpmcgbjmncalaa.Ints

theorem land_next (st : List Nat) (f k : Nat) (_h : f ≤ st.length) : (zints st).take f ++ [(k : Int)] = zints (st.take f ++ [k]) := by
  unfold zints
  rw [List.map_append, List.map_take]; rfl
theorem own_front {w : World} {base : Nat} {e : TypeId} {D : Option Addr} {n c f : Nat} {zs : List Int} (h : w.ownsRow base e 1 (.slice D n c) n (zs.map (Value.int .i64))) (hf : f ≤ n) : w.ownsRow base e 1 (.slice D f c) f ((zs.take f).map (Value.int .i64)) := by
  have hl := h.1
  rcases h.2 with ⟨h1, h2⟩ | ⟨g, cap, cur, h1, h2⟩
  · injection h1 with h1 h3 h4
    subst h1; subst h4
    have : f = 0 := by omega
    subst this
    exact World.ownsRow_nil _ _ _ _
  · injection h1 with h1 h3 h4
    subst h1; subst h4
    obtain ⟨h5, h6, h7, h8, h9, h10⟩ := h2
    refine ⟨by simp only [List.length_map, List.length_take, Nat.mul_one] at hl ⊢; omega, .inr ⟨g, c, cur, rfl, h5, h6, by omega, h8, h9, ?_⟩⟩
    rw [List.map_take, ← h10]
    simp only [Nat.mul_one]
    rw [List.take_take]
    congr 1
    omega
theorem land_own {w : World} {base : Nat} {e : TypeId} {v : Value} {st : List Nat} {f k : Nat} (hf : f ≤ st.length) (h : w.ownsRow base e 1 v (f + 1) (((zints st).take f ++ [(k : Int)]).map (Value.int .i64))) :
    w.ownsRow base e 1 v (st.take f ++ [k]).length ((zints (st.take f ++ [k])).map (Value.int .i64)) := by
  rw [land_next st f k hf] at h
  have e : (st.take f ++ [k]).length = f + 1 := by
    rw [List.length_append, List.length_take, List.length_singleton]; omega
  rw [e]; exact h

theorem len_one (n : Nat) : ((n : Int) == 1) = decide (n = 1) := by
  rw [Bool.eq_iff_iff, beq_iff_eq, decide_eq_true_iff]; omega
theorem below_undrew {B : Nat} {a w' : World} {q : Nat} (h : Below B (a.drewN q) w') : Below B a w' := ⟨h.os, h.tape, h.output, h.size, h.block⟩

set_option maxHeartbeats 8000000 in
set_option maxRecDepth 100000 in
theorem landMay (A : Option Addr) (n c : Nat) (l : List Nd) (w : World) (hl : l.length = n) (hn : n ≤ 1048576) (h : Nodes Any w A l) :
    Calls Try.prog 44 #[.slice A n c] w fun e w' => e = .returned (.bool (mayL l)) ∧ Below w.heap.size w w' := by
  obtain ⟨i0, hi, hz0, hz1, hz2⟩ := info_parts infoInt
  have hni : (n : Int) ≤ 1048576 := by omega
  have HN := Lib.hid hn
  have HL := Lib.hid hl
  have HD := Lib.hid h
  clear hn hl h
  go_enter Try.func44, Try.ntmps44
  go_wp2
  go_loopw [3, 10] (fun o i wr => ∃ (k : Nat) (st : List Nat), k ≤ n ∧ i = .int .i64 k ∧ Hid (mayUpTo l k = some st) ∧ wr.ownsRow w.heap.size 3 1 o st.length ((zints st).map (Value.int .i64)) ∧ Below w.heap.size w wr) (fun _ i _ => n - (intOf i).toNat)
  case atStart => exact ⟨0, [], Nat.zero_le _, rfl, rfl, World.ownsRow_made w #[] 0 (Nat.le_refl _) (by decide) rfl, (Below.refl _ _).alloc (Nat.le_refl _) _⟩
  case round =>
    obtain ⟨k, st, hk, rfl, HU, hown, hB⟩ := hrel
    obtain ⟨D, cD, rfl, hD1, hD2, -, -⟩ := own_slice hown
    have HO := Lib.hid hown
    have HB := Lib.hid hB
    have hst := (upTo_lt l k st HU.out).2
    have HST := Lib.hid (upTo_lt l k st HU.out).1
    clear hown hB
    by_cases hkn : k < n
    · have hkn' : (k : Int) < (n : Int) := by omega
      have hkl : k < l.length := by have := HL.out; omega
      obtain ⟨b, off, e, hnodes⟩ := (HD.out.below HB.out) (by omega)
      obtain ⟨nd, hnd⟩ : ∃ nd, l[k]? = some nd := ⟨_, List.getElem?_eq_getElem hkl⟩
      obtain ⟨x0, x1, x2, x3, s0, s2, s3, s1, K, cK, x4, hK, hKc, hcK, -, -⟩ := hnodes k nd hnd
      rw [Nat.mul_comm 5 k] at x0 x1 x2 x3 x4
      obtain ⟨m, hm⟩ : ∃ m, nd.kids.length = m := ⟨_, rfl⟩
      rw [hm] at x4 hK hKc
      have HND := Lib.hid hnd
      have HM := Lib.hid hm
      have HRK := Lib.hid hK
      have HKC := Lib.hid (fun W => landKidCount nd.kind W)
      have HFD := Lib.hid (fun W => landRightFields nd K m cK W s1)
      obtain ⟨q, hq⟩ : ∃ q, kidc nd.kind = q := ⟨_, rfl⟩
      rw [hq] at HKC
      have hq2 : q ≤ 2 := by
        rw [← hq]; unfold kidc
        split
        · omega
        · split <;> omega
      have HQ := Lib.hid hq
      have HSTOP := Lib.hid (land_stop HU.out hnd)
      have HGO := Lib.hid (land_go HU.out hnd)
      rw [hq] at HSTOP HGO
      subst e
      clear hnd hnodes hK hq hm hkl
      by_cases hqs : q ≤ st.length
      · obtain ⟨f, hf⟩ : ∃ f, st.length - q = f := ⟨_, rfl⟩
        have hdm : (st.length : Int) - (q : Int) = (f : Int) := by omega
        have hfq : st.length - f = q := by omega
        have hfs : f ≤ st.length := by omega
        have hf0 : decide ((f : Int) < 0) = false := by simp
        have hfc : (f : Int) ≤ (cD : Int) := by omega
        have hfs' : (f : Int) ≤ (st.length : Int) := by omega
        have hrt := Rd.from (Rd.own HO.out (zints_wf st n HN.out (fun x hx => Nat.lt_trans (HST.out x hx) hkn))) hD1 hfs
        have hsl := slice_from (P := Try.prog) 27 typeInts 1 sizeElemInts D st.length cD f hfs
        rw [hfq] at hrt hsl
        obtain ⟨T, hT⟩ : ∃ T, fromAddr D cD f 1 = T := ⟨_, rfl⟩
        obtain ⟨cT, hcT⟩ : ∃ cT, cD - f = cT := ⟨_, rfl⟩
        rw [hT] at hrt hsl
        rw [hcT] at hsl
        rw [hf] at HSTOP HGO
        have HEQ := Lib.hid (fun W (hb : Below wr.heap.size wr W) => equalInts K T m cK q cT nd.kids ((zints st).drop f) W (HRK.out.below hb) (hrt.below hb) (Nat.le_trans hKc hcK) (by have : maxLen = 9223372036854775807 := rfl; omega))
        have HHF := Lib.hid hf
        have HQS := Lib.hid hqs
        clear hrt hT hcT hf hfq hqs
        by_cases hke : nd.kids = (zints st).drop f
        · rw [decide_eq_true hke] at HEQ
          have HKE := Lib.hid hke
          obtain ⟨B1, hB1⟩ : ∃ b, fieldsB nd = b := ⟨_, rfl⟩
          rw [hB1] at HFD
          have hmq : m = q := by rw [← HM.out, hke, List.length_drop, zints, List.length_map]; have := HHF.out; have := HQS.out; omega
          have HKS := Lib.hid (fun W (hb : Below wr.heap.size wr W) => landRightKids (some ⟨b, off, none⟩) n c l nd K m cK W HL.out HN.out (HD.out.below (HB.out.trans (hb.mono HB.out.size))) HM.out (HRK.out.below hb) (by omega) (fun x hx => by
            rw [hke] at hx
            obtain ⟨t, ht, rfl⟩ := List.mem_map.1 (List.mem_of_mem_drop hx)
            have := HST.out t ht
            omega))
          obtain ⟨B2, hB2⟩ : ∃ b, kidsB l nd = b := ⟨_, rfl⟩
          simp only [hB2] at HKS
          have HB1 := Lib.hid hB1
          have HB2 := Lib.hid hB2
          clear hke hB1 hB2 hmq
          rcases B1 with _ | _
          · have HM2 := Lib.hid (HSTOP.out fun ⟨_, _, h3, _⟩ => by rw [HB1.out] at h3; cases h3)
            clear HB1 HB2 HKS
            go_wp2_with (first | (go_at_call 63; refine (HKC.out _).mono ?_; rintro e w' ⟨rfl, rfl⟩))
            first
              | (go_region_with (first
                  | (go_at_call 10; refine (HEQ.out _ (by first | exact (Below.refl _ _).alloc (Nat.le_refl _) _ | exact ((Below.refl _ _).alloc (Nat.le_refl _) _).drew)).mono ?_; rintro e w' ⟨rfl, qq, rfl⟩)
                  | (go_at_call 64; refine (HFD.out _).mono ?_; rintro e w1 ⟨rfl, hb1⟩)))
              | fail
            all_goals
              go_wp2
              go_ret
              exact ⟨by rw [HM2.out]; rfl, HB.out.trans ((below_box (below_undrew hb1)).mono HB.out.size)⟩
          · rcases B2 with _ | _
            · have HM2 := Lib.hid (HSTOP.out fun ⟨_, _, _, h4⟩ => by rw [HB2.out] at h4; cases h4)
              clear HB1 HB2
              go_wp2_with (first | (go_at_call 63; refine (HKC.out _).mono ?_; rintro e w' ⟨rfl, rfl⟩))
              first
                | (go_region_with (first
                    | (go_at_call 10; refine (HEQ.out _ (by first | exact (Below.refl _ _).alloc (Nat.le_refl _) _ | exact ((Below.refl _ _).alloc (Nat.le_refl _) _).drew)).mono ?_; rintro e w' ⟨rfl, qq, rfl⟩)
                    | (go_at_call 64; refine (HFD.out _).mono ?_; rintro e w1 ⟨rfl, hb1⟩; obtain ⟨c0, c1, c2, c3, c4⟩ := box5 (below_undrew hb1))
                    | (go_at_call 65; refine (HKS.out _ (by first | exact below_box (below_undrew hb1) | exact below_drewN (below_box (below_undrew hb1)) _ | exact (below_box (below_undrew hb1)).drew)).mono ?_; rintro e w2 ⟨rfl, hb2⟩)))
                | fail
              all_goals
                go_wp2
                go_ret
                exact ⟨by rw [HM2.out]; rfl, HB.out.trans (((below_box (below_undrew hb1)).trans (hb2.mono (below_box (below_undrew hb1)).size)).mono HB.out.size)⟩
            · have HG2 := Lib.hid (HGO.out ⟨HQS.out, HKE.out, HB1.out, HB2.out⟩)
              have HFS := Lib.hid hfs
              clear HB1 HB2
              go_wp2_with (first | (go_at_call 63; refine (HKC.out _).mono ?_; rintro e w' ⟨rfl, rfl⟩))
              first
                | (go_region_with (first
                    | (go_at_call 10; refine (HEQ.out _ (by first | exact (Below.refl _ _).alloc (Nat.le_refl _) _ | exact ((Below.refl _ _).alloc (Nat.le_refl _) _).drew)).mono ?_; rintro e w' ⟨rfl, qq, rfl⟩)
                    | (go_at_call 64; refine (HFD.out _).mono ?_; rintro e w1 ⟨rfl, hb1⟩; obtain ⟨c0, c1, c2, c3, c4⟩ := box5 (below_undrew hb1))
                    | (go_at_call 65; refine (HKS.out _ (by first | exact below_box (below_undrew hb1) | exact below_drewN (below_box (below_undrew hb1)) _ | exact (below_box (below_undrew hb1)).drew)).mono ?_; rintro e w2 ⟨rfl, hb2⟩)))
                | fail
              all_goals
                have hbw : Below wr.heap.size wr w2 := (below_box (below_undrew hb1)).trans (hb2.mono (below_box (below_undrew hb1)).size)
                have HBW := Lib.hid hbw
                have HBASE := Lib.hid (show w.heap.size ≤ w2.heap.size from Nat.le_trans HB.out.size hbw.size)
                have HO2 := Lib.hid (below_row (own_front HO.out hfs) hbw)
                have HST2 := Lib.hid (show st.length ≤ 1048576 by have := HN.out; omega)
                clear hbw hb1 hb2
                go_wp2_with (at_builtin; go_loud (refine wpList_append_ints rfl (.tmp 45) (.tmp 47) 27 rfl .i64 w.heap.size 3 i0 8 Try.underlying27 hi hz0 hz1 hz2 _ f _ (by rfl) (HO2.out.alloc _) _ 1 1 [(k : Int)] (by rfl) (Rd.lit w2 3 (0, 0) [(k : Int)] (fun z hz => by rw [List.mem_singleton.1 hz]; exact WalkArith.wf_i64 (by omega))) (by have := HST2.out; have := HFS.out; have : maxLen = 9223372036854775807 := rfl; omega) (by have := HST2.out; have := HFS.out; omega) (le_alloc HBASE.out) ?_; intro v3 w3 hown3 hgr3))
                go_roundw
                case rel => exact ⟨k + 1, st.take f ++ [k], by omega, by go_num, HG2, land_own HFS.out hown3, (((HB.out.trans (HBW.out.mono HB.out.size)).alloc HBASE.out _).grown hgr3 (le_alloc HBASE.out) (fun z hz => (HO2.out.lt z hz).1))⟩
                case measure => simp [intOf]; omega
        · rw [decide_eq_false hke] at HEQ
          have HM2 := Lib.hid (HSTOP.out fun ⟨_, h2, _, _⟩ => hke h2)
          clear hke
          go_wp2_with (first | (go_at_call 63; refine (HKC.out _).mono ?_; rintro e w' ⟨rfl, rfl⟩))
          go_quiet ((go_at_call 10; exact quiet_more ⟨_, rfl⟩ (HEQ.out _ (by first | exact (Below.refl _ _).alloc (Nat.le_refl _) _ | exact ((Below.refl _ _).alloc (Nat.le_refl _) _).drew | exact below_drewN ((Below.refl _ _).alloc (Nat.le_refl _) _) _))))
          go_wp2
          go_ret
          exact ⟨by rw [HM2.out]; rfl, below_drewN (HB.out.alloc HB.out.size _) _⟩
      · have HM2 := Lib.hid (HSTOP.out fun ⟨h1, _⟩ => hqs h1)
        have hlt : decide ((st.length : Int) - (q : Int) < 0) = true := decide_eq_true (by omega)
        clear hqs
        go_wp2_with (first | (go_at_call 63; refine (HKC.out _).mono ?_; rintro e w' ⟨rfl, rfl⟩))
        go_quiet (fail)
        go_wp2
        go_ret
        exact ⟨by rw [HM2.out]; rfl, below_drewN (HB.out.alloc HB.out.size _) _⟩
    · have hge : decide ((k : Int) < (n : Int)) = false := by simp; omega
      have e : k = n := by omega
      have HR := Lib.hid (show mayL l = decide (st.length = 1) from may_end (by rw [HL.out, ← e]; exact HU.out))
      clear e
      go_wp2
      go_ret
      exact ⟨by rw [HR.out, ← len_one]; rfl, HB.out⟩
end Go.Proofs.Ytcpmcgbjmncalaa.Tree

namespace Go.Proofs.Ytcpmcgbjmncalaa.Tree
open Go.RowKit Go.Proofs.Ytcpmcgbjmncalaa.Ints

end Go.Proofs.Ytcpmcgbjmncalaa.Tree

namespace Go.Proofs.Ytcpmcgbjmncalaa.Tree
open Go.RowKit Go.Proofs.Ytcpmcgbjmncalaa.Ints

end Go.Proofs.Ytcpmcgbjmncalaa.Tree

namespace Go.Proofs.Ytcpmcgbjmncalaa.Tree
open Go.RowKit Go.Proofs.Ytcpmcgbjmncalaa.Ints

end Go.Proofs.Ytcpmcgbjmncalaa.Tree

namespace Go.Proofs.Ytcpmcgbjmncalaa.Tree
open Go.RowKit Go.Proofs.Ytcpmcgbjmncalaa.Ints

set_option maxHeartbeats 2000000 in
theorem landReg (A : Option Addr) (n c : Nat) (l : List Nd) (w : World) (hl : l.length = n) (hn : n ≤ 1048576) (h : Nodes Any w A l) :
    Calls Try.prog 27 #[.slice A n c] w fun e w' => e = .returned (.bool (regL l)) ∧ Below w.heap.size w w' := by
  have hni : (n : Int) ≤ 1048576 := by omega
  have hM := fun W (hb : Below w.heap.size w W) => landMay A n c l W hl hn (h.below hb)
  have HL := Lib.hid hl
  have HD := Lib.hid h
  clear hl hn h
  rcases hm : mayL l
  · have HR := Lib.hid (show regL l = false by unfold regL; rw [hm]; rfl)
    rw [hm] at hM
    have HM := Lib.hid hM
    clear hM hm
    go_enter Try.func27, Try.ntmps27
    go_wp2_with (go_at_call 44; refine (HM.out _ (Below.refl _ _)).mono ?_; rintro e w1 ⟨rfl, hb1⟩)
    go_ret
    exact ⟨by rw [HR.out]; rfl, hb1⟩
  · have h0 := may_ne hm
    have HR := Lib.hid (show regL l = regKind (lastKind l) from reg_last hm)
    rw [hm] at hM
    have HM := Lib.hid hM
    have hn0 : 0 < n := by rw [← HL.out]; exact h0
    obtain ⟨b, off, e, hc⟩ := last_cell HL.out hn0 HD.out
    have HF := Lib.hid (fun W => landIsReg (lastKind l) W)
    have hn1 : (0 : Int) ≤ (n : Int) - 1 := by omega
    have hn2 : (1 : Int) ≤ (n : Int) := by omega
    have HC := Lib.hid hc
    subst e
    clear hM hm h0 hc
    go_enter Try.func27, Try.ntmps27
    go_wp2_with (first
      | (go_at_call 44; refine (HM.out _ (Below.refl _ _)).mono ?_; rintro e w1 ⟨rfl, hb1⟩; have hc1 := below_cell hb1 HC.out)
      | (go_at_call 45; refine (HF.out _).mono ?_; rintro e w' ⟨rfl, rfl⟩))
    go_ret
    exact ⟨by rw [HR.out]; rfl, hb1⟩


end Go.Proofs.Ytcpmcgbjmncalaa.Tree
