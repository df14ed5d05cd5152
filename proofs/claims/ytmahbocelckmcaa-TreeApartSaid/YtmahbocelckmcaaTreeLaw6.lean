/-
  The walk of the law TreeApart. By an AI agent.
-/
import Derived.Test.YtmahbocelckmcaaTreeApart3
namespace Go.Proofs.Ytmahbocelckmcaa.Tree
open Go.RowKit Go.Sort Go.Proofs.Ytmahbocelckmcaa.Ints

set_option maxHeartbeats 16000000 in
set_option maxRecDepth 100000 in
theorem lawApart (A : Option Addr) (n c : Nat) (zs : List Int) (pl : Bool) (at_ : Int) (w : World) (h : Rd .u16 w A n zs) (hn : n ≤ maxLen) (ha : 0 ≤ at_ ∧ at_ ≤ 255) :
    Calls Try.prog 7 #[.slice A n c, .bool pl, .int .u8 at_] w fun e w' => e = .returned (.bool true) ∧ Below w.heap.size w w' := by
  obtain ⟨i0, hi0, hz0, hz1, hz2⟩ := info_parts infoLists
  have HA := Lib.hid (fun W => awake W)
  have M1 := Lib.hid (lawMake A n c zs pl w h hn)
  obtain ⟨gF, lF⟩ := make_ok pl zs fun z hz => wf_u16 (h.all z hz)
  obtain ⟨F, hF⟩ : ∃ F, makeL pl zs = F := ⟨_, rfl⟩
  rw [hF] at gF lF M1
  have hmayF := gF.1
  have h0 := may_ne hmayF
  obtain ⟨m0, hm0⟩ : ∃ m, F.length = m := ⟨_, rfl⟩
  rw [hm0] at lF h0
  obtain ⟨i, hi⟩ : ∃ i : Nat, at_ % (m0 : Int) = (i : Int) := Int.eq_ofNat_of_zero_le (Int.emod_nonneg _ (by omega))
  have him : i < m0 := by have := Int.emod_lt_of_pos at_ (show (0 : Int) < (m0 : Int) by omega); omega
  obtain ⟨L, hL⟩ : ∃ L, partL F (i : Int) = L := ⟨_, rfl⟩
  have hmayL : mayL L = true := by rw [← hL]; exact part_may hmayF (by rw [hm0]; exact him)
  obtain ⟨m, hm⟩ : ∃ m, L.length = m + 1 := ⟨L.length - 1, by have := may_ne hmayL; omega⟩
  have hm100 : m + 1 ≤ 100 := by rw [← hm, ← hL]; have := part_short F (i : Int); omega
  have HMF := Lib.hid hm0
  have HML := Lib.hid hm
  have HMAY := Lib.hid hmayL
  have P1 := Lib.hid (fun (A1 : Option Addr) (c1 : Nat) (W : World) (hc : m0 ≤ c1) (hN : Nodes Any W A1 F) => landPart A1 m0 c1 (i : Int) F W hm0 (by omega) hc hN (by unfold small64; omega))
  rw [hL] at P1
  obtain ⟨ha1, ha2⟩ := ha
  have hiF : (m0 : Int) ≤ 100 := by omega
  have hi1 : (1 : Int) ≤ (m0 : Int) := by omega
  have hiz : ((m0 : Int) == 0) = false := beq_eq_false_iff_ne.2 (by omega)
  have hmi : (m : Int) ≤ 99 := by omega
  have hmz : ((m : Int) + 1 == 0) = false := beq_eq_false_iff_ne.2 (by omega)
  have hm1 : (0 : Int) ≤ (m : Int) := by omega
  have HII := Lib.hid hi
  clear h hn gF hF hmayF h0 hm0 lF him hL hmayL hm hi
  go_enter Try.func7, Try.ntmps7
  go_wp2_with fail
  refine M1.out.mono ?_
  rintro e w1 ⟨AF, cF, rfl, hnF, hcF, hmF, hb⟩
  rw [HMF.out] at hcF ⊢
  have NF := Lib.hid hnF
  have B1 := Lib.hid hb
  have HCF := Lib.hid hcF
  clear hnF hcF hmF hb
  have hst := HII.out
  go_wp2_with fail
  refine (P1.out AF cF w1 HCF.out NF.out).mono ?_
  rintro e w2 ⟨AP, cP, rfl, hnP, hcP, hmP, hb⟩
  rw [HML.out] at hcP ⊢
  have B2 := Lib.hid (B1.out.trans (hb.mono B1.out.size))
  obtain ⟨nd, st, hlast, hks, hst2, hfb, -, hstl, hshape⟩ := may_apart HMAY.out
  have hnd : L[m]? = some nd := by rw [List.getLast?_eq_getElem?, HML.out] at hlast; exact hlast
  obtain ⟨g, off, eP, hnodes⟩ := hnP (by rw [HML.out]; omega)
  obtain ⟨x0, x1, x2, x3, s0, s2, s3, s1, K, cK, x4, hK, hKc, hcK, -, -⟩ := hnodes m nd hnd
  rw [Nat.mul_comm 5 m] at x0 x1 x2 x3 x4
  obtain ⟨q, hq⟩ : ∃ q, st.length = q := ⟨_, rfl⟩
  have hql : nd.kids.length = q := by rw [hks]; unfold zints; rw [List.length_map, hq]
  have hq2 : (q : Int) ≤ 2 := by have := kidc_le nd.kind; omega
  rw [hql] at x4 hK
  rw [hks] at hK
  have HK := Lib.hid hK
  have HQ := Lib.hid hq
  have HKS := Lib.hid hks
  have HQL := Lib.hid hql
  have HSTL := Lib.hid hstl
  have HSH := Lib.hid hshape
  have HND := Lib.hid hnd
  have HST2 := Lib.hid hst2
  have HFB := Lib.hid hfb
  have HOKN := Lib.hid (show NodeOk w2 nd K cK from ⟨s0, s2, s3, s1, by rw [hql, hks]; exact hK, hKc, hcK⟩)
  have HN := Lib.hid hnP.any
  have HCP := Lib.hid hcP
  subst eP
  clear hst hb hnodes hlast hks hst2 hfb hstl hshape hnd hq hql hK hKc hcK hnP s0 s1 s2 s3 hcP hmP
  go_wp2_with fail
  go_loopw [9, 10, 11, 39] (fun kv dv nv iv wr => ∃ (k : Nat) (σ : List SL) (dk : Int) (nk : Nat), k ≤ q ∧ iv = .int .i64 k ∧ dv = .int .i64 dk ∧ nv = .int .i64 (1 + (nk : Int)) ∧
    Hid (JMid w2 #[.int .i64 nd.kind, .string nd.name, .int .i64 nd.lo, .int .i64 nd.hi, .slice K q cK] kv (.slice none 0 0) σ [] wr ∧ σ.length = k ∧ σ.map (·.1) = (st.take k).map (fun t : Nat => partL L (t : Int)) ∧
      dk = σ.foldl (fun m s => max m (depthL s.1)) 0 ∧ nk = σ.foldl (fun m s => m + s.1.length) 0 ∧ nk ≤ 100 * k ∧ 0 ≤ dk ∧ dk ≤ 100)) (fun _ _ _ i _ => q - (intOf i).toNat)
  case atStart =>
    refine ⟨0, [], 0, 0, Nat.zero_le _, rfl, rfl, rfl, ⟨⟨OwnLists.nil _ _ _, OwnLists.nil _ _ _, Or.inl rfl, fun q hq => by simp [Value.ownBlock] at hq, fun q hq => by simp [Value.ownBlock] at hq⟩, fun q hq => by simp [Value.ownBlock] at hq, fun q hq => by simp [Value.ownBlock] at hq, Below.refl _ _, by simp⟩, rfl, rfl, rfl, rfl, by omega, by omega, by omega⟩
  case round =>
    obtain ⟨k, σ, dk, nk, hk, rfl, rfl, rfl, HR⟩ := hrel
    have HB := Lib.hid (show Below w2.heap.size w2 wr from below_one HR.out.1)
    have hdk0 : 0 ≤ dk := HR.out.2.2.2.2.2.2.1
    have hdk1 : dk ≤ 100 := HR.out.2.2.2.2.2.2.2
    have hnk : (nk : Int) ≤ 200 := by have := HR.out.2.2.2.2.2.1; omega
    by_cases hkq : k < q
    · have hkq' : (k : Int) < (q : Int) := by omega
      have hk0 : (0 : Int) ≤ (k : Int) := by omega
      obtain ⟨t, ht⟩ : ∃ t, st[k]? = some t := ⟨_, List.getElem?_eq_getElem (by have := HQ.out; omega)⟩
      obtain ⟨b, o, eK, hcell⟩ := (HK.out.below HB.out).cell (by omega)
      have ck := hcell k (by omega)
      have ez : (zints st)[k]?.getD 0 = (t : Int) := by unfold zints; rw [List.getElem?_map, ht]; rfl
      rw [ez] at ck
      have htm := HSTL.out t (List.mem_of_getElem? ht)
      rw [HML.out] at htm
      have HT := Lib.hid ht
      subst eK
      have PT := Lib.hid (landPart (some ⟨g, off, none⟩) (m + 1) cP (t : Int) L wr HML.out (by omega) HCP.out (HN.out.below HB.out) (by unfold small64; omega))
      obtain ⟨R, hR⟩ : ∃ R, partL L (t : Int) = R := ⟨_, rfl⟩
      rw [hR] at PT
      have HR2 := Lib.hid hR
      have HRM := Lib.hid (show mayL R = true by rw [← hR]; exact part_may HMAY.out (by rw [HML.out]; omega))
      have HRL := Lib.hid (show R.length ≤ 100 by rw [← hR]; have := part_short L (t : Int); rw [HML.out] at this; omega)
      have HTM := Lib.hid htm
      clear ht hcell ez htm hR
      go_wp2_with fail
      refine PT.out.mono ?_
      rintro e w3 ⟨AQ, cQ, rfl, hnQ, hcQ, hmQ, hb⟩
      have HJ := Lib.hid (HR.out.1.below hb)
      have NF := Lib.hid hnQ.any
      have HJA := Lib.hid (HJ.out.below ((Below.refl w3.heap.size w3).alloc (Nat.le_refl _) (.cells #[.slice AQ R.length cQ] 22)))
      have HK1 := Lib.hid (HJA.out.new (NF.out.below ((Below.refl w3.heap.size w3).alloc (Nat.le_refl _) (.cells #[.slice AQ R.length cQ] 22))) hcQ hmQ)
      have HC1 := Lib.hid (cell_one_new w3 (cellL (R, AQ, cQ)) 22 0 _ rfl)
      have HS1 := Lib.hid (show σ.length ≤ 4194304 by have := HR.out.2.1; omega)
      have hd0 := depth_nonneg R
      have hd1 : depthL R ≤ 100 := by have := depth_le R; have := HRL.out; omega
      have hp1 : (R.length : Int) ≤ 100 := by have := HRL.out; omega
      obtain ⟨dR, hdR⟩ : ∃ d, depthL R = d := ⟨_, rfl⟩
      rw [hdR] at hd0 hd1
      have HDR := Lib.hid hdR
      clear hnQ hcQ hmQ hb hdR
      go_wp2_with (at_builtin; (refine wpList_append_slN rfl (.tmp 46) (.tmp 48) 36 rfl (w2.heap.size + 1) i0 Try.underlying36 hi0 hz0 hz1 hz2 u9 σ (by rfl) (Off (.slice none 0 0) 0 0) HJA.out.1.1 HJA.out.2.1 (R, AQ, cQ) HK1.out ⟨w3.heap.size, 0, none⟩ (by rfl) HC1.out HS1.out HJA.out.2.2.2.2 ?_); intro v4 w4 hown4 hno4 hgr4 hat4)
      have HM4 := Lib.hid (HJA.out.grow hown4 hno4 hgr4 hat4)
      have N4 := Lib.hid (show Nodes Any w4 AQ R from (hown4.2 (R, AQ, cQ) (by simp)).1.mono fun _ _ _ => trivial)
      clear hown4 hno4 hgr4 hat4
      refine (landDepth AQ _ cQ R w4 rfl (by have := HRL.out; omega) N4.out).mono ?_
      rintro e w5 ⟨rfl, hb⟩
      rw [HDR.out]
      have HM5 := Lib.hid (HM4.out.below hb)
      have N5 := Lib.hid (N4.out.below hb)
      clear hb
      go_wp2_with fail
      refine (landNames AQ _ cQ R w5 rfl (by have := HRL.out; omega) N5.out).mono ?_
      rintro e w6 ⟨AS, cS, rfl, hS, -, -, hb⟩
      have HM6 := Lib.hid (HM5.out.below hb)
      have SS := Lib.hid hS
      clear hb hS
      obtain ⟨ns, hns⟩ : ∃ ns, namesL R = ns := ⟨_, rfl⟩
      have HNS := Lib.hid (show ∀ s ∈ ns, s ∈ namesL L from fun s hs => by
        rw [← hns, ← HR2.out] at hs
        exact part_names HMAY.out (by have := HML.out; have := HTM.out; omega) hs)
      have HNL := Lib.hid (show ns.length ≤ 1000 by rw [← hns]; have := names_short R; have := HRL.out; omega)
      rw [hns] at SS ⊢
      obtain ⟨u, hu⟩ : ∃ u, ns.length = u := ⟨_, rfl⟩
      have HU := Lib.hid hu
      rw [hu] at HNL ⊢
      have hui : (u : Int) ≤ 1000 := by have := HNL.out; omega
      have HXL := Lib.hid (show (namesL L).length ≤ 1000 by have := names_short L; rw [HML.out] at this; omega)
      clear hns hu
      go_wp2_with fail
      go_loopw [61] (fun v wx => ∃ j : Nat, j ≤ u ∧ v = .int .i64 j ∧ Hid (Below w6.heap.size w6 wx)) (fun v _ => u - (intOf v).toNat)
      case atStart => exact ⟨0, Nat.zero_le _, rfl, Below.refl _ _⟩
      case round =>
        obtain ⟨j, hj, rfl, HBW⟩ := hrel
        by_cases hju : j < u
        · have hju' : (j : Int) < (u : Int) := by omega
          have hj0 : (0 : Int) ≤ (j : Int) := by omega
          obtain ⟨s, hs⟩ : ∃ s, ns[j]? = some s := ⟨_, List.getElem?_eq_getElem (by have := HU.out; omega)⟩
          obtain ⟨b1, o1, eS, hc1⟩ := (SS.out.below HBW.out) (by have := HU.out; omega)
          have d1 := hc1 j s hs
          have HMEM := Lib.hid (HNS.out s (List.mem_of_getElem? hs))
          obtain ⟨z, hz⟩ : ∃ z : ByteArray, ({ data := s.toArray } : ByteArray) = z := ⟨_, rfl⟩
          have hes : encStr s = .string z := by unfold encStr; rw [hz]
          rw [hes] at d1
          have HES := Lib.hid hes
          have HB9 := Lib.hid (HBW.out.mono (Nat.le_refl _))
          have NL := Lib.hid (HN.out.below ((below_one HM6.out).trans (HBW.out.mono (below_one HM6.out).size)))
          subst eS
          clear hs hc1 hz hes
          go_wp2_with fail
          refine (landNames (some ⟨g, off, none⟩) (m + 1) cP L wr HML.out (by omega) NL.out).mono ?_
          rintro e w7 ⟨A7, c7, rfl, hS7, -, -, hb⟩
          have S7 := Lib.hid hS7
          have HBX := Lib.hid (HBW.out.trans (hb.mono HBW.out.size))
          clear hS7 hb
          go_wp2_with fail
          have hh := lawHas A7 _ c7 (namesL L) s w7 rfl (by have := HXL.out; omega) S7.out HMEM.out
          rw [HES.out] at hh
          refine hh.mono ?_
          rintro e w8 ⟨rfl, hb⟩
          have HBY := Lib.hid (HBX.out.trans (hb.mono HBX.out.size))
          clear hb hh
          go_wp2
          go_roundw
          case rel => exact ⟨j + 1, by omega, by go_num, HBY⟩
          case measure => simp [intOf]; omega
        · have hge : decide ((j : Int) < (u : Int)) = false := by simp; omega
          have HM8 := Lib.hid (HM6.out.below HBW.out)
          go_wp2_with fail
          go_roundw
          case rel =>
            refine ⟨k + 1, σ ++ [(R, AQ, cQ)], max dk dR, nk + R.length, by omega, by go_num, rfl, ?_, HM8.out, ?_, ?_, ?_, ?_, ?_, ?_, ?_⟩
            · congr 1; omega
            · rw [List.length_append, HR.out.2.1]; rfl
            · obtain ⟨h1, h2⟩ := List.getElem?_eq_some_iff.1 HT.out
              rw [List.map_append, HR.out.2.2.1, List.take_succ_eq_append_getElem h1, List.map_append, h2, List.map_cons, List.map_nil, List.map_cons, List.map_nil, HR2.out]
            · rw [List.foldl_append, ← HR.out.2.2.2.1, ← HDR.out]; rfl
            · rw [List.foldl_append, ← HR.out.2.2.2.2.1]; rfl
            · have := HR.out.2.2.2.2.2.1; have := HRL.out; omega
            · omega
            · omega
          case measure => simp [intOf]; omega
    · have hge : decide ((k : Int) < (q : Int)) = false := by simp; omega
      have hkq2 : k = q := by omega
      obtain ⟨Ak, ck, ek, -, -, -, -⟩ := HR.out.1.1.1.slice
      have hσ : σ.length = q := by have := HR.out.2.1; omega
      have hO1 := HR.out.1.1.1
      subst ek
      have LK := Lib.hid hO1.lists
      rw [hσ] at hO1 ⊢
      have hls : σ.map (·.1) = st.map (fun t : Nat => partL L (t : Int)) := by rw [HR.out.2.2.1, List.take_of_length_le (by have := HQ.out; omega)]
      obtain ⟨hjn, hdp, hln⟩ := apart_all HMAY.out HST2.out HFB.out HSTL.out HSH.out
      rw [← hls] at hjn hdp hln
      have hdk := HR.out.2.2.2.1
      have hnk2 := HR.out.2.2.2.2.1
      rw [foldl_fst (fun m l => max m (depthL l))] at hdk
      rw [foldl_fst (fun m (l : List Nd) => m + l.length)] at hnk2
      rw [← hdk] at hdp
      rw [← hnk2, HML.out] at hln
      have hsl : ∀ s ∈ σ, s.1.length ≤ 100 := fun s hs => by
        have hmm : s.1 ∈ st.map (fun t : Nat => partL L (t : Int)) := by rw [← hls]; exact List.mem_map_of_mem hs
        obtain ⟨t, -, e'⟩ := List.mem_map.1 hmm
        rw [← e']
        have := part_short L (t : Int)
        rw [HML.out] at this
        omega
      have hnkm : (nk : Int) = (m : Int) := by omega
      have hen : ((1 + (nk : Int)) == (m : Int) + 1) = true := beq_iff_eq.2 (by omega)
      have hbx := HR.out.1.2.2.2.1.mono (show (w2.alloc (.cells #[.int .i64 nd.kind, .string nd.name, .int .i64 nd.lo, .int .i64 nd.hi, .slice K q cK] 33)).heap.size ≤ w2.heap.size + 1 by simp)
      have hx0 := below_cell hbx (box_cell 0 (.int .i64 nd.kind) rfl)
      have hx1 := below_cell hbx (box_cell 1 (.string nd.name) rfl)
      have hx2 := below_cell hbx (box_cell 2 (.int .i64 nd.lo) rfl)
      have hx3 := below_cell hbx (box_cell 3 (.int .i64 nd.hi) rfl)
      have hx4 := below_cell hbx (box_cell 4 (.slice K q cK) rfl)
      have HPJ := Lib.hid (landJoin nd K cK Ak q ck σ wr hσ (by omega) (fun s hs => by have := hsl s hs; omega) (HOKN.out.below HB.out) (by have := may_name HMAY.out HND.out; omega) LK.out)
      rw [hjn, HQL.out] at HPJ
      have HDP := Lib.hid hdp
      have HS := Lib.hid (show sameL L L = true by unfold sameL; rw [HMAY.out]; simp)
      have HBB := Lib.hid (B2.out.trans (HB.out.mono B2.out.size))
      clear hO1 hσ hls hjn hdp hln hdk hnk2 hsl hbx hkq2
      go_wp2_with fail
      refine HPJ.out.mono ?_
      rintro e w3 ⟨AJ, cJ, rfl, hNJ, -, -, hb⟩
      rw [HML.out]
      have NJ := Lib.hid hNJ
      have C3 := Lib.hid (HB.out.trans (hb.mono HB.out.size))
      have B3 := Lib.hid (HBB.out.trans (hb.mono HBB.out.size))
      clear hNJ hb hx0 hx1 hx2 hx3 hx4
      go_wp2_with fail
      have hsm := landSame AJ (some ⟨g, off, none⟩) (m + 1) cJ (m + 1) cP L L w3 HML.out HML.out (by omega) (by omega) NJ.out.any (HN.out.below C3.out)
      rw [HS.out] at hsm
      refine hsm.mono ?_
      rintro e w4 ⟨rfl, hb⟩
      have C4 := Lib.hid (C3.out.trans (hb.mono C3.out.size))
      have B4 := Lib.hid (B3.out.trans (hb.mono B3.out.size))
      clear hb hsm
      go_wp2_with fail
      refine (landDepth (some ⟨g, off, none⟩) (m + 1) cP L w4 HML.out (by omega) (HN.out.below C4.out)).mono ?_
      rintro e w5 ⟨rfl, hb⟩
      rw [HDP.out]
      have B5 := Lib.hid (B4.out.trans (hb.mono B4.out.size))
      clear hb
      go_wp2_with fail
      refine (HA.out _).mono ?_
      rintro e w6 ⟨rfl, hb⟩
      have B6 := Lib.hid (B5.out.trans (hb.mono B5.out.size))
      clear hb
      go_wp2
      go_ret
      exact ⟨rfl, B6.out⟩
end Go.Proofs.Ytmahbocelckmcaa.Tree
