/-
  The walk of the reference's Nest. By an AI agent.
  A formula's text is read as the formula, node by node. By an AI agent.
-/
import Derived.Test.YtnoghlhggeffnaaDoorGParseMade10
import Derived.Test.YtnoghlhggeffnaaDoorGParseMade15
import Derived.Test.YtnoghlhggeffnaaDoorGParseMade5
import Derived.Test.YtnoghlhggeffnaaDoorGParseMade12
import Derived.Laws.MakeOwn
import Derived.RegionTactic
import Derived.ChangeAlike
import Derived.StillTailTactics
import Derived.BigQuiet
import Derived.Deep.QuietTactic
import Derived.Lib.MinMax
namespace Go.Proofs.YtnoghlhggeffnaaDoor.Show
open Go.RowKit Go.Proofs.YtnoghlhggeffnaaDoor.Tree Go.Proofs.YtnoghlhggeffnaaDoor.Itoa Go.Proofs.YtnoghlhggeffnaaDoor.Ints
open Go.Proofs.YtnoghlhggeffnaaDoor.Parse (Blk Blk.new)

theorem kidsN_snoc (ds : List Nat) (l : List Nd) (n : Nd) (k : Int) : ∀ (ks : List Int) (w : Nat), kidsN ds l n w (ks ++ [k]) = max (kidsN ds l n w ks) (kidN ds l n (w + ks.length) k)
  | [], w => by simp [kidsN]
  | x :: r, w => by
    rw [List.cons_append]
    show max (kidN ds l n w x) (kidsN ds l n (w + 1) (r ++ [k])) = max (max (kidN ds l n w x) (kidsN ds l n (w + 1) r)) _
    rw [kidsN_snoc ds l n k r (w + 1), List.length_cons, show w + 1 + r.length = w + (r.length + 1) by omega, Nat.max_assoc]
theorem nst_bound {l : List Nd} (h : mayL l = true) : ∀ i, i < l.length → nst l i ≤ 2 * i + 2 := by
  intro i
  induction i using Nat.strongRecOn with
  | ind i ih =>
    intro hi
    obtain ⟨n, hn⟩ : ∃ n, l[i]? = some n := ⟨_, List.getElem?_eq_getElem hi⟩
    have hd : (if deeper n.kind = true then 1 else 0) ≤ 1 := by split <;> omega
    have hkd : ∀ w t, t < i → kidD l n w t ≤ 2 * t + 3 := by
      intro w t ht
      have := ih t ht (by omega)
      unfold kidD
      split <;> omega
    rw [nst_node hn]
    unfold nodeN
    obtain ⟨-, -, hk⟩ := kids_at h hn
    rcases hk with ⟨e, -, -⟩ | ⟨t, e, -, -, -, hti⟩ | ⟨t, u, e, -, -, hle, -, htu, hui⟩
    · rw [e]; show 0 + _ ≤ _; omega
    · rw [e]
      show max (kidN (nestsTo l i) l n 0 (t : Int)) 0 + _ ≤ _
      rw [kidN_at (by omega) (by omega)]
      have := hkd 0 t (by omega)
      omega
    · rw [e]
      show max (kidN (nestsTo l i) l n 0 (t : Int)) (max (kidN (nestsTo l i) l n 1 (u : Int)) 0) + _ ≤ _
      rw [kidN_at (by omega) (by omega), kidN_at (by omega) (by omega)]
      have := hkd 0 t (by omega)
      have := hkd 1 u (by omega)
      omega
def ints' (ds : List Nat) : List Int := ds.map fun x : Nat => (x : Int)
def nRow (n k : Nat) (l : List Nd) (v : Nat) : List Int := ints' (nestsTo l k) ++ (v : Int) :: List.replicate (n - k - 1) 0
def nAt (n k : Nat) (l : List Nd) : List Int := if k < n then nRow n k l 0 else ints' (nestsTo l k)
theorem ints_len (ds : List Nat) : (ints' ds).length = ds.length := List.length_map ..
theorem ints_at {ds : List Nat} {j : Nat} (h : j < ds.length) : (ints' ds)[j]?.getD 0 = ((ds.getD j 0 : Nat) : Int) := by
  unfold ints'
  rw [List.getElem?_map, List.getD_eq_getElem?_getD, List.getElem?_eq_getElem h]
  rfl
theorem nRow_at {n k : Nat} {l : List Nd} (hl : l.length = n) (hk : k < n) (v : Nat) : (nRow n k l v)[k]?.getD 0 = (v : Int) := by
  have : (ints' (nestsTo l k)).length = k := by rw [ints_len, nestsTo_len (by omega)]
  unfold nRow
  rw [List.getElem?_append_right (by omega), this]
  simp
theorem nRow_low {n k j : Nat} {l : List Nd} (hl : l.length = n) (hk : k < n) (hj : j < k) (v : Nat) : (nRow n k l v)[j]?.getD 0 = ((nst l j : Nat) : Int) := by
  have h1 : (nestsTo l k).length = k := nestsTo_len (by omega)
  unfold nRow
  rw [List.getElem?_append_left (by rw [ints_len]; omega), ints_at (by omega), nestsTo_low hj (by omega)]
theorem nRow_set {n k : Nat} {l : List Nd} (hl : l.length = n) (hk : k < n) (v u : Nat) : (nRow n k l v).set k (u : Int) = nRow n k l u := by
  have : (ints' (nestsTo l k)).length = k := by rw [ints_len, nestsTo_len (by omega)]
  unfold nRow
  rw [List.set_append_right _ _ (by omega), this, Nat.sub_self]
  rfl
theorem nRow_next {n k : Nat} {l : List Nd} {nd : Nd} (hl : l.length = n) (hnd : l[k]? = some nd) : nRow n k l (nst l k) = nAt n (k + 1) l := by
  have hk := (List.getElem?_eq_some_iff.1 hnd).1
  have e0 : ints' (nestsTo l (k + 1)) = ints' (nestsTo l k) ++ [((nst l k : Nat) : Int)] := by
    rw [nestsTo_succ hnd, nst_node hnd]
    unfold ints'
    rw [List.map_append]
    rfl
  unfold nAt nRow
  by_cases h : k + 1 < n
  · rw [if_pos h]
    show ints' (nestsTo l k) ++ ((nst l k : Nat) : Int) :: List.replicate (n - k - 1) 0 = ints' (nestsTo l (k + 1)) ++ ((0 : Nat) : Int) :: List.replicate (n - (k + 1) - 1) 0
    rw [e0, List.append_assoc]
    congr 1
    have e : n - k - 1 = (n - (k + 1) - 1) + 1 := by omega
    rw [e, List.replicate_succ]; rfl
  · rw [if_neg h, e0]
    have e : n - k - 1 = 0 := by omega
    rw [e, List.replicate_zero]
theorem nRow_start (n : Nat) (l : List Nd) (h0 : 0 < n) : List.replicate n 0 = nAt n 0 l := by
  obtain ⟨m, rfl⟩ : ∃ m, n = m + 1 := ⟨n - 1, by omega⟩
  unfold nAt nRow
  rw [if_pos h0, List.replicate_succ]
  simp [nestsTo, nestsF, ints']
theorem made_nests (n : Nat) : (madeCells (Value.int .i64 0).cells (n * 1)).toList = (List.replicate n (0 : Int)).map (Value.int .i64) := by
  rw [Nat.mul_one]
  apply List.ext_getElem
  · simp [madeCells]
  · intro i h1 h2
    have e : (Value.int .i64 0).cells = #[Value.int .i64 0] := rfl
    simp [madeCells, e, Nat.mod_one]
theorem belN (w : World) (n B : Nat) : Below B w (w.drewN n) := ⟨rfl, rfl, rfl, Nat.le_refl _, fun _ _ => rfl⟩
theorem deeper_ways {k : Int} (h : deeper k = true) : k = 4 ∨ k = 8 ∨ k = 9 ∨ k = 10 ∨ k = 11 ∨ k = 12 ∨ k = 13 ∨ k = 16 ∨ k = 17 ∨ k = 19 := by
  unfold deeper at h
  rw [decide_eq_true_eq] at h
  omega
theorem deeper_not {k : Int} (h : deeper k = false) : (k == 4) = false ∧ (k == 8) = false ∧ (k == 9) = false ∧ (k == 10) = false ∧ (k == 11) = false ∧ (k == 12) = false ∧ (k == 13) = false ∧ (k == 16) = false ∧ (k == 17) = false ∧ (k == 19) = false := by
  unfold deeper at h
  rw [decide_eq_false_iff_not] at h
  simp only [beq_eq_false_iff_ne]
  omega

set_option maxHeartbeats 40000000 in
set_option maxRecDepth 100000 in
theorem refNest (A : Option Addr) (n c : Nat) (l : List Nd) (w : World) (hl : l.length = n) (hn : n ≤ 1048576) (h : Nodes Any w A l) :
    Calls Tryd.prog 10 #[.slice A n c] w fun e w' => e = .returned (.int .i64 (nestL l : Int)) ∧ Below w.heap.size w w' := by
  obtain ⟨i0, hi, hz0, hz1, hz2⟩ := info_parts infoInt
  have hni : (n : Int) ≤ 1048576 := by omega
  have hM := fun W (hb : Below w.heap.size w W) => refMay A n c l W hl hn (h.below hb)
  have HL := Lib.hid hl
  have HD := Lib.hid h
  have HN := Lib.hid hn
  clear hl hn h
  rcases hm : mayL l
  · have HR := Lib.hid (show nestL l = 0 by unfold nestL; rw [hm]; rfl)
    rw [hm] at hM
    have HM := Lib.hid hM
    clear hM hm
    go_enter Tryd.func10, Tryd.ntmps10
    go_wp2_with (go_at_call 16; refine (HM.out _ (Below.refl _ _)).mono ?_; rintro e w1 ⟨rfl, hb1⟩)
    refine bodyPost_ret (v := .int .i64 0) (by simp [results, Tryd.results10, go_sem]) rfl ?_
    exact ⟨by rw [HR.out]; rfl, hb1⟩
  · have h0 := may_ne hm
    have hn0 : 0 < n := by rw [← HL.out]; exact h0
    have HR := Lib.hid (show nestL l = nst l (l.length - 1) from if_pos hm)
    have HMY := Lib.hid hm
    rw [hm] at hM
    have HM := Lib.hid hM
    have b1 : i0.bytes * n ≤ 281474976710656 := by rw [hz2]; have := HN.out; omega
    have b2 : n ≤ maxLen := by unfold maxLen; have := HN.out; omega
    have hn1 : (1 : Int) ≤ (n : Int) := by omega
    have hnn : (0 : Int) ≤ (n : Int) := by omega
    clear hM hm h0
    go_enter Tryd.func10, Tryd.ntmps10
    go_wp2_with (first
      | (go_at_call 16; refine (HM.out _ (Below.refl _ _)).mono ?_; rintro e w1 ⟨rfl, hb1⟩)
      | (at_make; refine wpList_make_full _ rfl _ _ 40 rfl w1.heap.size 3 i0 (.int .i64 0) 1 Tryd.underlying40 hi hz0 hz1 .i64 .i64 _ _ n rfl rfl (by first | rfl | omega) (by first | rfl | omega) b1 b2 (Nat.le_refl _) ?_; intro w2 hmade hgr1; rw [made_nests] at hmade))
    have hw1 : w.heap.size ≤ w1.heap.size := hb1.size
    have hB2 : Below w.heap.size w w2 := hb1.trans (((Below.refl _ _).grown hgr1 (Nat.le_refl _) (by simp)).mono hw1)
    rw [nRow_start n l hn0] at hmade
    have HMD := Lib.hid hmade
    have HB2 := Lib.hid hB2
    clear hmade hB2 hgr1 hb1
    obtain ⟨g, hg⟩ : ∃ g, w1.heap.size = g := ⟨_, rfl⟩
    rw [hg] at hw1 HMD ⊢
    clear hg
    go_loopw [17] (fun i wr => ∃ k : Nat, k ≤ n ∧ i = .int .i64 k ∧ Hid (wr.ownsRow g 3 1 (.slice (some ⟨g, 0, none⟩) n n) n ((nAt n k l).map (Value.int .i64))) ∧ Hid (Below w.heap.size w wr)) (fun i _ => n - (intOf i).toNat)
    case atStart => exact ⟨0, Nat.zero_le _, rfl, HMD.out, HB2.out⟩
    case round =>
      obtain ⟨k, hk, rfl, HRW, HB⟩ := hrel
      by_cases hkn : k < n
      · have hkn' : (k : Int) < (n : Int) := by omega
        have hk0 : (0 : Int) ≤ (k : Int) := by omega
        obtain ⟨b, off, e, hnodes⟩ := HD.out (by have := HL.out; omega)
        obtain ⟨nd, hnd⟩ : ∃ nd, l[k]? = some nd := ⟨_, List.getElem?_eq_getElem (by have := HL.out; omega)⟩
        obtain ⟨x0, x1, x2, x3, s0, s2, s3, s1, K, cK, x4, hK, hKc, hcK, -, -⟩ := hnodes k nd hnd
        rw [Nat.mul_comm 5 k] at x0 x1 x2 x3 x4
        replace x0 := below_cell HB.out x0
        replace x1 := below_cell HB.out x1
        replace x2 := below_cell HB.out x2
        replace x3 := below_cell HB.out x3
        replace x4 := below_cell HB.out x4
        have HNS := Lib.hid hnodes
        have HND := Lib.hid hnd
        obtain ⟨m, hm⟩ : ∃ m, nd.kids.length = m := ⟨_, rfl⟩
        rw [hm] at x4 hK hKc
        have HMK := Lib.hid hm
        have hm2 : m ≤ 2 := by rw [← hm]; exact may_arity HMY.out hnd
        have HRK := Lib.hid hK
        have hm64 : (m : Int) ≤ 9223372036854775807 := by omega
        have HBX := Lib.hid (HB.out.alloc HB.out.size (.cells #[.int .i64 nd.kind, .string nd.name, .int .i64 nd.lo, .int .i64 nd.hi, .slice K m cK] 42))
        have HGW := Lib.hid (show g < wr.heap.size from (HRW.out.lt g rfl).2)
        have HBK := Lib.hid (Blk.new wr #[.int .i64 nd.kind, .string nd.name, .int .i64 nd.lo, .int .i64 nd.hi, .slice K m cK] 42 _ rfl)
        have HR0 := Lib.hid (show (wr.alloc (.cells #[.int .i64 nd.kind, .string nd.name, .int .i64 nd.lo, .int .i64 nd.hi, .slice K m cK] 42)).ownsRow g 3 1 (.slice (some ⟨g, 0, none⟩) n n) n ((nRow n k l (kidsN (nestsTo l k) l nd 0 (nd.kids.take 0))).map (Value.int .i64)) by
          have := HRW.out
          unfold nAt at this
          rw [if_pos hkn] at this
          exact this.alloc _)
        subst e
        clear hnd hnodes hK hm
        go_wp2
        obtain ⟨X, hX⟩ : ∃ X, wr.heap.size = X := ⟨_, rfl⟩
        have HXG := Lib.hid (show X ≠ g by have := HGW.out; omega)
        rw [hX] at HBK ⊢
        clear hX x0 x1 x2 x3 x4
        go_loopw [25] (fun i wx => ∃ j : Nat, j ≤ m ∧ i = .int .i64 j ∧ Hid (wx.ownsRow g 3 1 (.slice (some ⟨g, 0, none⟩) n n) n ((nRow n k l (kidsN (nestsTo l k) l nd 0 (nd.kids.take j))).map (Value.int .i64))) ∧ Hid (Below w.heap.size w wx) ∧ Hid (Blk wx X [.int .i64 nd.kind, .string nd.name, .int .i64 nd.lo, .int .i64 nd.hi, .slice K m cK])) (fun i _ => m - (intOf i).toNat)
        case atStart => exact ⟨0, Nat.zero_le _, rfl, HR0.out, HBX.out, HBK.out⟩
        case round =>
          obtain ⟨j, hj, rfl, HRJ, HBJ, HKJ⟩ := hrel
          by_cases hjm : j < m
          · have hjm' : (j : Int) < (m : Int) := by omega
            obtain ⟨t, ht, htk, htake⟩ := kid_nat HMY.out HND.out (j := j) (by rw [HMK.out]; exact hjm)
            obtain ⟨nt, hnt⟩ : ∃ nt, l[t]? = some nt := ⟨_, List.getElem?_eq_getElem (by have := HL.out; omega)⟩
            have hka : kindAt l (t : Int) = nt.kind := by unfold kindAt; rw [Int.toNat_natCast, hnt]; rfl
            have y0 := below_cell HBJ.out (HNS.out t nt hnt).1
            rw [Nat.mul_comm 5 t] at y0
            have x0 := HKJ.out.cell 0 rfl
            have hc1 := own_cell HRJ.out hkn
            have hc2 := own_cell HRJ.out (show t < n by omega)
            have hf1 := HRJ.out.frozenAt k
            rw [nRow_at HL.out hkn] at hc1
            rw [nRow_low HL.out hkn htk] at hc2
            obtain ⟨v, hv⟩ : ∃ v, kidsN (nestsTo l k) l nd 0 (nd.kids.take j) = v := ⟨_, rfl⟩
            obtain ⟨u, hu⟩ : ∃ u, nst l t = u := ⟨_, rfl⟩
            have hub := nst_bound HMY.out t (by have := HL.out; omega)
            rw [hv] at hc1
            rw [hu] at hc2 hub
            have hui : (u : Int) ≤ 4194304 := by omega
            have hu0 : (0 : Int) ≤ (u : Int) := by omega
            have htn : (t : Int) < (n : Int) := by omega
            have ht0 : (0 : Int) ≤ (t : Int) := by omega
            have hj0 : (0 : Int) ≤ (j : Int) := by omega
            obtain ⟨bk, ok, eK, hkc⟩ := (HRK.out.below HBJ.out).cell (by omega)
            have ck := hkc j hjm
            rw [ht] at ck
            subst eK
            have HBA := Lib.hid (fun W => refBare nd.kind nt.kind j W (by omega))
            have HKX := Lib.hid (show kidsN (nestsTo l k) l nd 0 (nd.kids.take (j + 1)) = max v (u + if bare nd.kind j nt.kind = true then 0 else 1) by
              rw [htake, kidsN_snoc, List.length_take, HMK.out, show 0 + min j m = j by omega, kidN_at htk (by have := HL.out; omega), hv]
              unfold kidD
              rw [hu, hka])
            have HV := Lib.hid hv
            have HST := Lib.hid (fun (x : Nat) (y : Int) (hxy : (x : Int) = y) (wy : World) (hr : wy.ownsRow g 3 1 (.slice (some ⟨g, 0, none⟩) n n) n ((nRow n k l v).map (Value.int .i64))) => show Hid ((wy.setCell ⟨g, k, none⟩ (.int .i64 y)).ownsRow g 3 1 (.slice (some ⟨g, 0, none⟩) n n) n ((nRow n k l x).map (Value.int .i64))) by
              subst hxy
              have := own_set hr k (x : Int)
              rw [nRow_set HL.out hkn] at this
              exact this)
            have HRV := Lib.hid (by have := HRJ.out; rw [hv] at this; exact this)
            clear hkc ht htake hnt hka hub hv hu
            obtain ⟨bb, hbb⟩ : ∃ bb, bare nd.kind j nt.kind = bb := ⟨_, rfl⟩
            rw [hbb] at HBA HKX
            clear hbb
            cases bb
            all_goals
              go_wp2_with fail
              go_quiet ((go_at_call 17; exact quiet_left ⟨_, rfl⟩ (HBA.out _)))
              go_wp2_with fail
              go_roundw
              case rel => exact ⟨j + 1, by omega, by go_num, by rw [HKX.out]; exact HST.out _ _ (by simp; try omega) _ (below_row HRV.out (belN _ _ _)), (HBJ.out.trans (belN _ _ _)).setCell hw1 _, (HKJ.out.drewN _).other ⟨g, k, none⟩ _ HXG.out⟩
              case measure => simp [intOf]; omega
          · have e : j = m := by omega
            subst e
            have hge : decide ((j : Int) < (j : Int)) = false := by simp
            have htk : nd.kids.take j = nd.kids := List.take_of_length_le (by rw [HMK.out]; exact Nat.le_refl _)
            have hrj := HRJ.out
            rw [htk] at hrj
            obtain ⟨v, hv⟩ : ∃ v, kidsN (nestsTo l k) l nd 0 nd.kids = v := ⟨_, rfl⟩
            rw [hv] at hrj
            have hnv : nst l k = v + if deeper nd.kind = true then 1 else 0 := by rw [nst_node HND.out, hv]; rfl
            have hnb := nst_bound HMY.out k (by have := HL.out; omega)
            have hv1 : (v : Int) ≤ 4194304 := by omega
            have hv0 : (0 : Int) ≤ (v : Int) := by omega
            have hc1 := own_cell hrj hkn
            have hf1 := hrj.frozenAt k
            rw [nRow_at HL.out hkn] at hc1
            have x0 := HKJ.out.cell 0 rfl
            have HRV := Lib.hid hrj
            have HNX := Lib.hid (nRow_next (n := n) HL.out HND.out)
            clear hrj htk hv hnb
            obtain ⟨dd, hdd⟩ : ∃ dd, deeper nd.kind = dd := ⟨_, rfl⟩
            rw [hdd] at hnv
            cases dd
            · have HNV := Lib.hid (show nst l k = v from hnv)
              obtain ⟨a1, a2, a3, a4, a5, a6, a7, a8, a9, a10⟩ := deeper_not hdd
              clear hnv hdd
              go_wp2_with fail
              go_roundw
              case rel => exact ⟨k + 1, by omega, by go_num, by rw [← HNX.out, HNV.out]; exact HRV.out, HBJ.out⟩
              case measure => simp [intOf]; omega
            · have HNV := Lib.hid (show nst l k = v + 1 from hnv)
              have hway := deeper_ways hdd
              clear hnv hdd
              rcases hway with hk1 | hk1 | hk1 | hk1 | hk1 | hk1 | hk1 | hk1 | hk1 | hk1
              all_goals
                rw [hk1] at x0
                clear hk1
                go_wp2_with fail
                go_roundw
                case rel => exact ⟨k + 1, by omega, by go_num, by
                  rw [← HNX.out, HNV.out]
                  have := own_set HRV.out k ((v + 1 : Nat) : Int)
                  rw [nRow_set HL.out hkn] at this
                  exact this, HBJ.out.setCell hw1 _⟩
                case measure => simp [intOf]; omega
      · have e : k = n := by omega
        subst e
        have hge : decide ((k : Int) < (k : Int)) = false := by simp
        have hrow := HRW.out
        unfold nAt at hrow
        rw [if_neg (by omega)] at hrow
        have hc1 := own_cell hrow (show k - 1 < k by omega)
        rw [ints_at (by rw [nestsTo_len (by rw [HL.out]; exact Nat.le_refl _)]; omega), nestsTo_low (show k - 1 < k by omega) (by rw [HL.out]; exact Nat.le_refl _)] at hc1
        have hlast : nst l (k - 1) = nestL l := by rw [HR.out, HL.out]
        rw [hlast] at hc1
        have hk1 : (0 : Int) ≤ (k : Int) - 1 := by omega
        have hk2 : ((k : Int) - 1).toNat = k - 1 := by omega
        clear hrow hlast
        go_wp2_with fail
        refine bodyPost_ret (v := .int .i64 (nestL l : Int)) (by simp [results, Tryd.results10, go_sem]) rfl ?_
        exact ⟨rfl, HB.out⟩
end Go.Proofs.YtnoghlhggeffnaaDoor.Show

namespace Go.Proofs.YtnoghlhggeffnaaDoor.Show
open Go.Proofs.YtnoghlhggeffnaaDoor.Tree Go.Proofs.YtnoghlhggeffnaaDoor.Lex Go.Proofs.YtnoghlhggeffnaaDoor.Parse

theorem take_next {l : List Nd} {i : Nat} {n : Nd} (h : l[i]? = some n) : l.take (i + 1) = l.take i ++ [n] := by
  obtain ⟨hi, rfl⟩ := List.getElem?_eq_some_iff.1 h
  exact List.take_succ_eq_append_getElem hi
theorem take_len {l : List Nd} {i : Nat} {n : Nd} (h : l[i]? = some n) : (l.take i).length = i := by
  have hi := (List.getElem?_eq_some_iff.1 h).1
  rw [List.length_take]; omega
/-- A node that is no name is its kind, its interval, its kids. -/
theorem node_eq {n : Nd} {k : Nat} (hf : fieldsB n = true) (hk : n.kind = (k : Int)) (h3 : k ≠ 3) : n = nd1 k n.lo n.hi n.kids := by
  obtain ⟨kd, nm, lo, hi, ks⟩ := n
  have hk : kd = (k : Int) := hk
  subst hk
  unfold fieldsB nameOkB at hf
  rw [Bool.and_eq_true, Bool.and_eq_true, if_neg (by show ¬ (k : Int) = 3; omega), decide_eq_true_eq] at hf
  have e : nm = ⟨#[]⟩ := by
    apply ByteArray.ext
    apply Array.toList_inj.1
    exact hf.2.1
  subst e
  rfl
theorem node_span {n : Nd} (hf : fieldsB n = true) : if timed n.kind = true then Ival.mayS n.lo n.hi = true else n.lo = 0 ∧ n.hi = 0 := by
  unfold fieldsB okSpan at hf
  rw [Bool.and_eq_true, Bool.and_eq_true] at hf
  have := hf.2.2
  split at this
  · next h => rw [if_pos h]; exact this
  · next h => rw [if_neg h]; simpa using this
/-- How a node's interval is read behind its word. -/
def SpanR (k : Nat) (lo hi : Int) (sp : List Tk) : Prop := ∀ rest : List Tk, Parse.textOf rest ≠ [91] → spanM k (sp ++ rest) = .ok (lo, hi, rest)
theorem span_plain {k : Nat} (hk : k < 8 ∨ 17 < k) : SpanR k 0 0 [] := fun rest _ => by
  unfold spanM
  rw [if_pos hk]
  rfl

section
variable {l : List Nd} {i : Nat} {n : Nd}
theorem own_leaf {g : Bool} {kk : Nat} {tx bs : List UInt8} (hn : l[i]? = some n) (hs : startL l i = i) (hl : leafOf g tx = some n) (hg : regKind n.kind = g) (hr : if g = true then 4 ≤ rank n.kind else 5 ≤ rank n.kind) (htx : tx ≠ [91]) (h : LexTo bs (Tok kk tx 0)) : LexTo bs (Own l i n) :=
  h.mono fun ts ⟨p, e⟩ => by
    subst e
    refine ⟨?_, ⟨_, _, rfl, htx⟩⟩
    rw [hg]
    refine fit_o (fun d made rest hd hm => ?_) hr
    have e1 : sz l i = 1 := by unfold sz; omega
    rw [e1] at hm ⊢
    rw [hs, take_next hn]
    have := D.leaf (g := g) (d := d) (s := ⟨(⟨kk, tx, 0, p⟩ : Tk) :: rest, made, l.take i⟩) hl (by show made ≠ 200; omega)
    have e2 : ((l.take i).length : Int) = (i : Int) := by rw [take_len hn]
    show D _ _ _ (.ok ⟨rest, made + 1, l.take i ++ [n]⟩ (i : Int))
    rw [← e2]
    exact this
/-- An operator ahead of its operand. -/
theorem own_pre {g : Bool} {k kk t p δ : Nat} {tx : List UInt8} {sp ks : List Tk} (hn : l[i]? = some n) (hf : fieldsB n = true) (hk : n.kind = (k : Int)) (h3 : k ≠ 3) (hkids : n.kids = [(t : Int)]) (hst : startL l i = startL l t) (hle : startL l t ≤ t) (hti : t + 1 = i)
    (hp : preOf g tx = k) (hsp : SpanR k n.lo n.hi sp) (hO : O l false δ t ks) (hd : δ + 1 ≤ nst l i) (hh : Head ks) : O l g (nst l i) i (⟨kk, tx, 0, p⟩ :: (sp ++ ks)) := fun d made rest hdd hm => by
  have e1 : sz l i = sz l t + 1 := by unfold sz; omega
  rw [e1] at hm ⊢
  have h0 : k ≠ 0 := by
    intro e
    subst e
    unfold fieldsB at hf
    rw [Bool.and_eq_true, kinds_range] at hf
    omega
  have h1 := hO (d + 1) (made + 1) rest (by omega) (by omega)
  have e2 : (⟨kk, tx, 0, p⟩ :: (sp ++ ks)) ++ rest = (⟨kk, tx, 0, p⟩ : Tk) :: (sp ++ (ks ++ rest)) := by simp
  rw [e2, hst]
  have h2 := D.pre (g := g) (d := d) (s := ⟨(⟨kk, tx, 0, p⟩ : Tk) :: (sp ++ (ks ++ rest)), made, l.take (startL l t)⟩) (s1 := ⟨rest, made + 1 + sz l t, l.take (t + 1)⟩) (a := (t : Int)) (lo := n.lo) (hi := n.hi) (r := ks ++ rest)
    (by show preOf g tx ≠ 0; rw [hp]; exact h0) (by omega) (by show made ≠ 200; omega) (by show spanM (preOf g tx) (sp ++ (ks ++ rest)) = _; rw [hp]; exact hsp _ hh.ne) h1
  have e3 : l.take (i + 1) = l.take (t + 1) ++ [nd1 (preOf g tx) n.lo n.hi [(t : Int)]] := by
    rw [take_next hn, ← hti, hp, ← hkids, ← node_eq hf hk h3]
  have e4 : ((l.take (t + 1)).length : Int) = (i : Int) := by rw [hti, take_len hn]
  rw [e3, ← e4, show made + (sz l t + 1) = made + 1 + sz l t by omega]
  exact h2
/-- back and fore. -/
theorem own_br {k kk t p q q' δ : Nat} {tx : List UInt8} {sp ks : List Tk} (hn : l[i]? = some n) (hf : fieldsB n = true) (hk : n.kind = (k : Int)) (h3 : k ≠ 3) (hkids : n.kids = [(t : Int)]) (hst : startL l i = startL l t) (hle : startL l t ≤ t) (hti : t + 1 = i)
    (hp : braceOf false tx = k) (hsp : SpanR k n.lo n.hi sp) (hR : R l true δ 0 t ks) (hd : δ + 1 ≤ nst l i) : O l false (nst l i) i (⟨kk, tx, 0, p⟩ :: (sp ++ (⟨3, [123], 0, q⟩ :: (ks ++ [⟨3, [125], 0, q'⟩])))) := fun d made rest hdd hm => by
  have e1 : sz l i = sz l t + 1 := by unfold sz; omega
  rw [e1] at hm ⊢
  have h0 : k ≠ 0 := by
    intro e
    subst e
    unfold fieldsB at hf
    rw [Bool.and_eq_true, kinds_range] at hf
    omega
  have hno : NoOp true 0 ((⟨3, [125], 0, q'⟩ : Tk) :: rest) := ⟨fun L' _ _ => by
    show (if (betwK true [125]).2 = L' + 1 then (betwK true [125]).1 else 0) = 0
    have e : betwK true [125] = (0, 0) := by decide
    rw [e]; split <;> rfl, fun _ => by show ([125] : List UInt8) ≠ [42]; decide⟩
  have h1 := hR (d + 1) (made + 1) (⟨3, [125], 0, q'⟩ :: rest) (by omega) (by omega) hno
  have e2 : (⟨kk, tx, 0, p⟩ :: (sp ++ (⟨3, [123], 0, q⟩ :: (ks ++ [⟨3, [125], 0, q'⟩])))) ++ rest = (⟨kk, tx, 0, p⟩ : Tk) :: (sp ++ (⟨3, [123], 0, q⟩ :: (ks ++ (⟨3, [125], 0, q'⟩ :: rest)))) := by simp
  rw [e2, hst]
  have h2 := D.br (g := false) (d := d) (s := ⟨(⟨kk, tx, 0, p⟩ : Tk) :: (sp ++ (⟨3, [123], 0, q⟩ :: (ks ++ (⟨3, [125], 0, q'⟩ :: rest)))), made, l.take (startL l t)⟩) (s1 := ⟨⟨3, [125], 0, q'⟩ :: rest, made + 1 + sz l t, l.take (t + 1)⟩) (a := (t : Int)) (lo := n.lo) (hi := n.hi) (r := ⟨3, [123], 0, q⟩ :: (ks ++ (⟨3, [125], 0, q'⟩ :: rest)))
    (by show braceOf false tx ≠ 0; rw [hp]; exact h0) (by show made ≠ 200; omega) (by show spanM (braceOf false tx) (sp ++ _) = _; rw [hp]; exact hsp _ (by show ([123] : List UInt8) ≠ [91]; decide)) rfl (by omega) h1 rfl
  have e3 : l.take (i + 1) = l.take (t + 1) ++ [nd1 (braceOf false tx) n.lo n.hi [(t : Int)]] := by
    rw [take_next hn, ← hti, hp, ← hkids, ← node_eq hf hk h3]
  have e4 : ((l.take (t + 1)).length : Int) = (i : Int) := by rw [hti, take_len hn]
  rw [e3, ← e4, show made + (sz l t + 1) = made + 1 + sz l t by omega]
  exact h2
/-- A star. -/
theorem own_star {t p δ : Nat} {ks : List Tk} (hn : l[i]? = some n) (hf : fieldsB n = true) (hk : n.kind = ((22 : Nat) : Int)) (hlo : n.lo = 0 ∧ n.hi = 0) (hkids : n.kids = [(t : Int)]) (hst : startL l i = startL l t) (hle : startL l t ≤ t) (hti : t + 1 = i)
    (hS : S l δ t ks) (hd : δ ≤ nst l i) : S l (nst l i) i (ks ++ [⟨3, [42], 0, p⟩]) := fun d made rest o hdd hm ho => by
  have e1 : sz l i = sz l t + 1 := by unfold sz; omega
  rw [e1] at hm ho
  have e2 : (ks ++ [⟨3, [42], 0, p⟩]) ++ rest = ks ++ ((⟨3, [42], 0, p⟩ : Tk) :: rest) := by simp
  rw [e2, hst]
  refine hS d made (⟨3, [42], 0, p⟩ :: rest) o (by omega) (by omega) ?_
  have e3 : l.take (i + 1) = l.take (t + 1) ++ [nd1 22 0 0 [(t : Int)]] := by
    have := node_eq hf hk (by decide)
    rw [hlo.1, hlo.2, hkids] at this
    rw [take_next hn, ← hti, ← this]
  have e4 : ((l.take (t + 1)).length : Int) = (i : Int) := by rw [hti, take_len hn]
  rw [e3, ← e4, show made + (sz l t + 1) = made + sz l t + 1 by omega] at ho
  exact D.starsGo (s := ⟨(⟨3, [42], 0, p⟩ : Tk) :: rest, made + sz l t, l.take (t + 1)⟩) rfl (by show made + sz l t ≠ 200; omega) ho
/-- A sign or a word between two operands. -/
theorem own_two {g : Bool} {k kk t u p δ δ' L : Nat} {tx : List UInt8} {sp ks us : List Tk} (hn : l[i]? = some n) (hf : fieldsB n = true) (hk : n.kind = (k : Int)) (h3 : k ≠ 3) (hkids : n.kids = [(t : Int), (u : Int)]) (hst : startL l i = startL l t) (hle : startL l t ≤ t) (hsu : startL l u = t + 1) (htu : t + 1 ≤ u) (hui : u + 1 = i)
    (_hL : L < lvl g) (hb : betwK g tx = (k, L + 1)) (hx : tx ≠ [42]) (hsp : SpanR k n.lo n.hi sp) (hQ : Q l g δ L t ks) (hR : R l g δ' (L + 1) u us) (hd : δ ≤ nst l i) (hd' : δ' ≤ nst l i) (hh : Head us) : Q l g (nst l i) L i (ks ++ (⟨kk, tx, 0, p⟩ :: (sp ++ us))) := fun d made rest o hdd hm hno ho => by
  have e1 : sz l i = sz l t + sz l u + 1 := by unfold sz; omega
  rw [e1] at hm ho
  have h0 : k ≠ 0 := by
    intro e
    subst e
    unfold fieldsB at hf
    rw [Bool.and_eq_true, kinds_range] at hf
    omega
  have e2 : (ks ++ (⟨kk, tx, 0, p⟩ :: (sp ++ us))) ++ rest = ks ++ ((⟨kk, tx, 0, p⟩ : Tk) :: (sp ++ (us ++ rest))) := by simp
  have hop : opOf g L tx = k := by unfold opOf; rw [hb, if_pos rfl]
  rw [e2, hst]
  refine hQ d made (⟨kk, tx, 0, p⟩ :: (sp ++ (us ++ rest))) o (by omega) (by omega) ⟨fun L' h1 _ => by
    show opOf g L' tx = 0
    unfold opOf
    rw [hb, if_neg (by show ¬ L + 1 = L' + 1; omega)], fun _ => hx⟩ ?_
  have h1 := hR d (made + sz l t + 1) rest (by omega) (by omega) hno
  rw [hsu] at h1
  have e3 : l.take (i + 1) = l.take (u + 1) ++ [nd1 (opOf g L tx) n.lo n.hi [(t : Int), (u : Int)]] := by
    rw [take_next hn, ← hui, hop, ← hkids, ← node_eq hf hk h3]
  have e4 : ((l.take (u + 1)).length : Int) = (i : Int) := by rw [hui, take_len hn]
  rw [e3, ← e4, show made + (sz l t + sz l u + 1) = made + sz l t + 1 + sz l u by omega] at ho
  exact D.opsGo (s := ⟨(⟨kk, tx, 0, p⟩ : Tk) :: (sp ++ (us ++ rest)), made + sz l t, l.take (t + 1)⟩) (s2 := ⟨rest, made + sz l t + 1 + sz l u, l.take (u + 1)⟩) (r := us ++ rest) (by show opOf g L tx ≠ 0; rw [hop]; exact h0) (by show made + sz l t ≠ 200; omega) (by show spanM (opOf g L tx) (sp ++ (us ++ rest)) = _; rw [hop]; exact hsp _ hh.ne) h1 ho
end
end Go.Proofs.YtnoghlhggeffnaaDoor.Show
