/-
  The walk of the landed Nest. By an AI agent.
  What calls leave that hand back nodes; kids moved. By an AI agent.
-/
import Derived.Test.YthcbgneoonekkaaGreatDoorGShowBack17
import Derived.Test.YthcbgneoonekkaaGreatDoorGShowBack15
import Derived.Test.YthcbgneoonekkaaGreatDoorGShowBack8
import Derived.Test.YthcbgneoonekkaaGreatDoorGShowBack4
import Derived.Deep.RegionHeld
namespace Go.Proofs.YthcbgneoonekkaaGreatDoor.Show
open Go.RowKit Go.Proofs.YthcbgneoonekkaaGreatDoor.Tree Go.Proofs.YthcbgneoonekkaaGreatDoor.Itoa Go.Proofs.YthcbgneoonekkaaGreatDoor.Ints
open Go.Proofs.YthcbgneoonekkaaGreatDoor.Parse (Blk Blk.new)

theorem ints_set (ds : List Nat) (i x : Nat) : (ints' ds).set i (x : Int) = ints' (ds.set i x) := by
  unfold ints'
  rw [List.map_set]
theorem ints_get {ds : List Nat} {j n : Nat} (hl : ds.length = n) (h : j < n) : (ints' ds)[j]?.getD 0 = ((ds.getD j 0 : Nat) : Int) := ints_at (by omega)
theorem ints_zero (n : Nat) : List.replicate n (0 : Int) = ints' (List.replicate n 0) := by
  unfold ints'
  rw [List.map_replicate]
  rfl
set_option maxHeartbeats 40000000 in
set_option maxRecDepth 100000 in
theorem landNest (A : Option Addr) (n c : Nat) (l : List Nd) (w : World) (hl : l.length = n) (hn : n ≤ 1048576) (h : Nodes Any w A l) :
    Calls Tryz.prog 20 #[.slice A n c] w fun e w' => e = .returned (.int .i64 (nestL l : Int)) ∧ Below w.heap.size w w' := by
  obtain ⟨i0, hi, hz0, hz1, hz2⟩ := info_parts infoInt
  have hni : (n : Int) ≤ 1048576 := by omega
  have hM := fun W (hb : Below w.heap.size w W) => landMay A n c l W hl hn (h.below hb)
  have HL := Lib.hid hl
  have HD := Lib.hid h
  have HN := Lib.hid hn
  clear hl hn h
  rcases hm : mayL l
  · have HR := Lib.hid (show nestL l = 0 by unfold nestL; rw [hm]; rfl)
    rw [hm] at hM
    have HM := Lib.hid hM
    clear hM hm
    go_enter Tryz.func20, Tryz.ntmps20
    go_wp2_with (go_at_call 15; refine (HM.out _ (Below.refl _ _)).mono ?_; rintro e w1 ⟨rfl, hb1⟩)
    refine bodyPost_ret (v := .int .i64 0) (by simp [results, Tryz.results20, go_sem]) rfl ?_
    exact ⟨by rw [HR.out]; rfl, hb1⟩
  · have h0 := may_ne hm
    have hn0 : 0 < n := by rw [← HL.out]; exact h0
    have HW := Lib.hid (run_whole hm)
    have HMY := Lib.hid hm
    rw [hm] at hM
    have HM := Lib.hid hM
    have b1 : i0.bytes * n ≤ 281474976710656 := by rw [hz2]; have := HN.out; omega
    have b2 : n ≤ maxLen := by unfold maxLen; have := HN.out; omega
    have hn1 : (1 : Int) ≤ (n : Int) := by omega
    have hnn : (0 : Int) ≤ (n : Int) := by omega
    have HNL := Lib.hid (show nestL l ≤ 2 * n by
      have := nst_bound hm (l.length - 1) (by omega)
      have e : nestL l = nst l (l.length - 1) := if_pos hm
      have := HL.out
      omega)
    clear hM hm h0
    go_enter Tryz.func20, Tryz.ntmps20
    go_wp2_with (go_at_call 15; refine (HM.out _ (Below.refl _ _)).mono ?_; rintro e w1 ⟨rfl, hb1⟩)
    have hw1 : w.heap.size ≤ w1.heap.size := hb1.size
    have HB1 := Lib.hid hb1
    clear hb1
    obtain ⟨w2, hrun, hmade, hgr1⟩ := run_make_full (P := Tryz.prog) w1.drew w1.heap.size 32 3 i0 (.int .i64 0) 1 Tryz.underlying32 hi hz0 hz1 .i64 .i64 n b1 b2 (Nat.le_refl _)
    rw [made_nests] at hmade
    have hB2 : Below w.heap.size w w2 := HB1.out.drew.trans (((Below.refl _ _).grown hgr1 (Nat.le_refl _) (by simp)).mono hw1)
    rw [ints_zero] at hmade
    have HMD := Lib.hid hmade
    have HB2 := Lib.hid hB2
    clear hmade hB2 hgr1
    obtain ⟨g, hg⟩ : ∃ g, w1.heap.size = g := ⟨_, rfl⟩
    have hg' : w1.drew.heap.size = g := hg
    rw [hg'] at hrun
    rw [hg] at hw1 HMD
    rw [hg'] at HMD
    clear hg hg'
    go_region
    go_wp2
    clear hrun
    go_loopw [3, 5] (fun dv i wr => ∃ (k : Nat) (z : Int) (ds : List Nat) (m : Nat), z = (k : Int) - 1 ∧ k ≤ n ∧ i = .int .i64 z ∧ dv = .int .i64 (m : Int) ∧ Hid (ds.length = n) ∧ Hid (LeAll (2 * (n - k)) (ds, m)) ∧ Hid (runD l k (ds, m) = runD l l.length (List.replicate l.length 0, 0)) ∧ Hid (wr.ownsRow g 3 1 (.slice (some ⟨g, 0, none⟩) n n) n ((ints' ds).map (Value.int .i64))) ∧ Hid (Below w.heap.size w wr)) (fun _ i _ => (intOf i + 1).toNat)
    case atStart => exact ⟨n, (n : Int) - 1, List.replicate n 0, 0, rfl, Nat.le_refl _, rfl, rfl, List.length_replicate .., ⟨fun j => by rw [List.getD_eq_getElem?_getD, List.getElem?_replicate]; split <;> exact Nat.zero_le _, Nat.zero_le _⟩, by rw [HL.out]; exact rfl, HMD.out, HB2.out⟩
    case round =>
      obtain ⟨k, z, ds, m, hz, hk, rfl, rfl, HDL, HLE, HRUN, HRW, HB⟩ := hrel
      have hmb := HLE.out.2
      have hm0 : (0 : Int) ≤ (m : Int) := by omega
      have hmi : (m : Int) ≤ 4194304 := by omega
      cases k with
      | zero =>
        obtain rfl : z = -1 := by omega
        have e : nestL l = m := by
          have := HRUN.out
          have h2 := HW.out
          rw [← this] at h2
          exact h2.symm
        have HEQ := Lib.hid e
        clear hz hk e hmb
        go_wp2_with fail
        refine bodyPost_ret (v := .int .i64 (m : Int)) (by simp [results, Tryz.results20, go_sem]) rfl ?_
        exact ⟨by rw [HEQ.out], HB.out⟩
      | succ k =>
        obtain rfl : z = (k : Int) := by omega
        have hkn : k < n := by omega
        have hkn' : (k : Int) < (n : Int) := by omega
        have hk0 : (0 : Int) ≤ (k : Int) := by omega
        obtain ⟨b, off, e, hnodes⟩ := HD.out (by have := HL.out; omega)
        obtain ⟨nd, hnd⟩ : ∃ nd, l[k]? = some nd := ⟨_, List.getElem?_eq_getElem (by have := HL.out; omega)⟩
        obtain ⟨x0, x1, x2, x3, s0, s2, s3, s1, K, cK, x4, hK, hKc, hcK, -, -⟩ := hnodes k nd hnd
        rw [Nat.mul_comm 5 k] at x0 x1 x2 x3 x4
        have HX := Lib.hid (And.intro x0 (And.intro x1 (And.intro x2 (And.intro x3 x4))))
        replace x4 := below_cell HB.out x4
        clear x0 x1 x2 x3
        have HND := Lib.hid hnd
        obtain ⟨q, hq⟩ : ∃ q, nd.kids.length = q := ⟨_, rfl⟩
        rw [hq] at x4 hK hKc HX
        have HMK := Lib.hid hq
        have hq2 : q ≤ 2 := by rw [← hq]; exact may_arity HMY.out hnd
        have HRK := Lib.hid hK
        have hq64 : (q : Int) ≤ 9223372036854775807 := by omega
        subst e
        have HGW := Lib.hid (show g < wr.heap.size from (HRW.out.lt g rfl).2)
        obtain ⟨d, hd⟩ : ∃ d, ds.getD k 0 = d := ⟨_, rfl⟩
        have hdb : d ≤ 2 * (n - (k + 1)) := by rw [← hd]; exact HLE.out.1 k
        have HDD := Lib.hid hd
        have HLV := Lib.hid (fun W (hb : Below w.heap.size w W) (j t : Nat) (nt : Nd) (hj : j < q) (ht : nd.kids[j]?.getD 0 = (t : Int)) (hnt : l[t]? = some nt) =>
          landLevels (some ⟨b, off, none⟩) n c l nd K q cK j t nt W HL.out HN.out (HD.out.below hb) HMK.out (HRK.out.below hb) hj hq2 ht hnt)
        clear hnd hnodes hK hq hd hz hk
        go_wp2
        clear x4
        have HLE2 := Lib.hid (show ∀ ks, LeAll (2 * (n - k)) (kfold l nd d (ds, m) ks).2 from fun ks => kfold_le ⟨fun j => by have := HLE.out.1 j; omega, by have := HLE.out.2; omega⟩ (by omega) ks)
        go_loopw [3, 27] (fun dv i wx => ∃ (j : Nat), j ≤ q ∧ i = .int .i64 (j : Int) ∧ dv = .int .i64 ((kfold l nd d (ds, m) (nd.kids.take j)).2.2 : Int) ∧ Hid (wx.ownsRow g 3 1 (.slice (some ⟨g, 0, none⟩) n n) n ((ints' (kfold l nd d (ds, m) (nd.kids.take j)).2.1).map (Value.int .i64))) ∧ Hid ((kfold l nd d (ds, m) (nd.kids.take j)).2.1.getD k 0 = d) ∧ Hid (Below w.heap.size w wx)) (fun _ i _ => q - (intOf i).toNat)
        case atStart => exact ⟨0, Nat.zero_le _, rfl, by rw [List.take_zero]; rfl, by rw [List.take_zero]; exact HRW.out, by rw [List.take_zero]; exact HDD.out, HB.out⟩
        case round =>
          obtain ⟨j, hj, rfl, rfl, HRJ, HDJ, HBJ⟩ := hrel
          obtain ⟨hf1, hf2⟩ := kfold_len l nd d (ds, m) (nd.kids.take j)
          have hlj : (nd.kids.take j).length = j := by rw [List.length_take, HMK.out]; omega
          rw [hlj] at hf1
          have hle := HLE2.out (nd.kids.take j)
          obtain ⟨es, hes⟩ : ∃ es, (kfold l nd d (ds, m) (nd.kids.take j)).2.1 = es := ⟨_, rfl⟩
          obtain ⟨M, hM⟩ : ∃ M, (kfold l nd d (ds, m) (nd.kids.take j)).2.2 = M := ⟨_, rfl⟩
          have hel : es.length = n := by rw [← hes, hf2]; exact HDL.out
          have hMb : M ≤ 2 * (n - k) := by rw [← hM]; exact hle.2
          have HELE := Lib.hid (show ∀ x, es.getD x 0 ≤ 2 * (n - k) by rw [← hes]; exact hle.1)
          rw [hes] at HRJ HDJ
          rw [hM]
          have HKF := Lib.hid (show kfold l nd d (ds, m) (nd.kids.take j) = (j, es, M) from Prod.ext hf1 (Prod.ext hes hM))
          have HEL := Lib.hid hel
          have hM0 : (0 : Int) ≤ (M : Int) := by omega
          have hMi : (M : Int) ≤ 4194304 := by omega
          clear hf1 hf2 hlj hle hes hM hel
          by_cases hjm : j < q
          · have hjm' : (j : Int) < (q : Int) := by omega
            have hj0 : (0 : Int) ≤ (j : Int) := by omega
            obtain ⟨t, ht, htk, htake⟩ := kid_nat HMY.out HND.out (j := j) (by rw [HMK.out]; exact hjm)
            obtain ⟨nt, hnt⟩ : ∃ nt, l[t]? = some nt := ⟨_, List.getElem?_eq_getElem (by have := HL.out; omega)⟩
            have hka : kindAt l (t : Int) = nt.kind := by unfold kindAt; rw [Int.toNat_natCast, hnt]; rfl
            have HLW := Lib.hid (fun W (hb : Below w.heap.size w W) => HLV.out W hb j t nt hjm ht hnt)
            obtain ⟨bk, ok, eK, hkc⟩ := (HRK.out.below HBJ.out).cell (by omega)
            have ck := hkc j hjm
            rw [ht] at ck
            have hlv : ((if q = 1 ∧ nd.kind ≠ 22 then (1 : Int) else 0) + (if rank nt.kind < leastS nd.kind j then 1 else 0)) = ((lev l nd j (t : Int) : Nat) : Int) := by
              unfold lev encD
              rw [hka, HMK.out]
              by_cases h1 : q = 1 ∧ nd.kind ≠ 22 <;> by_cases h2 : rank nt.kind < leastS nd.kind j <;> simp [h1, h2]
            have hlb := lev_le l nd j (t : Int)
            obtain ⟨v, hv⟩ : ∃ v, lev l nd j (t : Int) = v := ⟨_, rfl⟩
            rw [hv] at hlv hlb
            rw [hlv] at HLW
            have HKX := Lib.hid (show kfold l nd d (ds, m) (nd.kids.take (j + 1)) = (j + 1, es.set t (d + v), max M (d + v)) by
              rw [htake, kfold_snoc, HKF.out]
              show (j + 1, es.set (t : Int).toNat (d + lev l nd j (t : Int)), max M (d + lev l nd j (t : Int))) = _
              rw [Int.toNat_natCast, hv])
            have htn : (t : Int) < (n : Int) := by omega
            have htn' : t < n := by omega
            have ht0 : (0 : Int) ≤ (t : Int) := by omega
            have htk' : t ≠ k := by omega
            have hc1 := own_cell HRJ.out hkn
            have hc2 := own_cell HRJ.out htn'
            rw [ints_get HEL.out hkn, HDJ.out] at hc1
            rw [ints_get HEL.out htn'] at hc2
            have hf1 := HRJ.out.frozenAt t
            obtain ⟨u, hu⟩ : ∃ u, es.getD t 0 = u := ⟨_, rfl⟩
            rw [hu] at hc2
            obtain ⟨y0, y1, y2, y3, y4⟩ := HX.out
            replace y0 := below_cell HBJ.out y0
            replace y1 := below_cell HBJ.out y1
            replace y2 := below_cell HBJ.out y2
            replace y3 := below_cell HBJ.out y3
            replace y4 := below_cell HBJ.out y4
            have HGX := Lib.hid (show g < wr.heap.size from (HRJ.out.lt g rfl).2)
            have HFR := Lib.hid (fun W4 (hb : Below wr.heap.size wr W4) => show W4.cell? ⟨g, k, none⟩ = some (.int .i64 (d : Int)) ∧ W4.cell? ⟨g, t, none⟩ = some (.int .i64 (u : Int)) ∧ W4.frozen? ⟨g, t, none⟩ = false from
              ⟨below_cell hb hc1, below_cell hb hc2, by rw [hb.frozen (p := ⟨g, t, none⟩) HGX.out]; exact hf1⟩)
            have hdi : (d : Int) ≤ 4194304 := by omega
            have hd0 : (0 : Int) ≤ (d : Int) := by omega
            have hvi : (v : Int) ≤ 2 := by omega
            have hv0 : (0 : Int) ≤ (v : Int) := by omega
            have hw0 : IntKind.i64.wrap ((d : Int) + (v : Int)) = ((d + v : Nat) : Int) := by rw [← Int.natCast_add]; exact IntWalk.i64_in _ (by omega)
            have hw9 : wrap64 ((d : Int) + (v : Int)) = ((d + v : Nat) : Int) := by rw [← Int.natCast_add]; exact IntWalk.wrap64_in _ (by omega)
            have HSTO := Lib.hid (fun W4 (hb : Below wr.heap.size wr W4) => show Hid ((W4.setCell ⟨g, t, none⟩ (.int .i64 ((d : Int) + (v : Int)))).ownsRow g 3 1 (.slice (some ⟨g, 0, none⟩) n n) n ((ints' (es.set t (d + v))).map (Value.int .i64))) by
              have h9 := own_set (below_row HRJ.out hb) t ((d : Int) + (v : Int))
              rw [show (d : Int) + (v : Int) = ((d + v : Nat) : Int) from (Int.natCast_add d v).symm, ints_set] at h9
              rw [show (d : Int) + (v : Int) = ((d + v : Nat) : Int) from (Int.natCast_add d v).symm]
              exact h9)
            have HGD := Lib.hid (show (es.set t (d + v)).getD k 0 = d by
              rw [getD_set, if_neg (fun h => htk' h.1)]
              exact HDJ.out)
            subst eK
            clear hkc ht htake hnt hka hlv hv hu
            go_wp2_with fail
            go_region_with (go_at_call 33; refine (HLW.out _ (by first | exact HBJ.out | exact HBJ.out.drew)).mono ?_; rintro e w4 ⟨rfl, hb4⟩; have hb5 : Below wr.heap.size wr w4 := (by first | exact hb4 | exact (Below.refl wr.heap.size wr).drew.trans hb4); obtain ⟨q1, q2, q3⟩ := HFR.out w4 hb5)
            all_goals
              go_wp2_with fail
              clear hw0 hw9 hc1 hc2 hf1 y0 y1 y2 y3 y4 q1 q2 q3 ck
              go_roundw
              case rel =>
                refine ⟨j + 1, hjm, by rw [Int.natCast_add]; rfl, ?_, ?_, ?_, ?_⟩
                · rw [HKX.out]
                  show Value.int .i64 (max (M : Int) ((d : Int) + (v : Int))) = Value.int .i64 ((max M (d + v) : Nat) : Int)
                  rw [show (d : Int) + (v : Int) = ((d + v : Nat) : Int) from (Int.natCast_add d v).symm]
                  exact congrArg (Value.int .i64) (by omega)
                · rw [HKX.out]
                  dsimp only
                  with_reducible exact HSTO.out w4 hb5
                · rw [HKX.out]
                  dsimp only
                  with_reducible exact HGD
                · exact (HBJ.out.trans (hb5.mono HBJ.out.size)).setCell hw1 _
              case measure => simp [intOf]; omega
          · have e : j = q := by omega
            subst e
            have hge : decide ((j : Int) < (j : Int)) = false := by simp
            have HTK := Lib.hid (show nd.kids.take j = nd.kids from List.take_of_length_le (by rw [HMK.out]; exact Nat.le_refl _))
            have HNX := Lib.hid (show runD l k (es, M) = runD l l.length (List.replicate l.length 0, 0) by
              rw [← HRUN.out]
              show _ = runD l k (downN l k (ds, m))
              rw [downN_eq HND.out]
              show _ = runD l k (kfold l nd (ds.getD k 0) (ds, m) nd.kids).2
              rw [HDD.out, ← HTK.out, HKF.out])
            go_wp2_with fail
            go_roundw
            case rel => exact ⟨k, (k : Int) - 1, es, M, rfl, by omega, by go_num, rfl, HEL.out, ⟨HELE.out, hMb⟩, HNX.out, HRJ.out, HBJ.out⟩
            case measure => simp [intOf]
end Go.Proofs.YthcbgneoonekkaaGreatDoor.Show

namespace Go.Proofs.YthcbgneoonekkaaGreatDoor.Tree
open Go.RowKit Go.Proofs.YthcbgneoonekkaaGreatDoor.Ints

/-- What a call leaves that hands back nodes, in blocks of S. -/
def GotNodes (S : Nat → Prop) (w : World) (m : List Nd) (e : Ending) (w' : World) : Prop :=
  ∃ A c, e = .returned (.slice A m.length c) ∧ Nodes S w' A m ∧ m.length ≤ c ∧ c ≤ maxLen ∧ Below w.heap.size w w'
theorem GotNodes.none0 {S : Nat → Prop} {w w' : World} (hb : Below w.heap.size w w') : GotNodes S w [] (.returned (.slice none 0 0)) w' := ⟨none, 0, rfl, Nodes.nil _ _ _, Nat.le_refl _, by decide, hb⟩
theorem GotNodes.own {S : Nat → Prop} {w w' : World} {base : Nat} {v : Value} {σ : List SNd} {m : List Nd} (h : OwnNodes S w' base v σ) (hm : σ.map (·.1) = m) (hS : ∀ b, base ≤ b → b < w'.heap.size → S b) (hb : Below w.heap.size w w') : GotNodes S w m (.returned v) w' := by
  obtain ⟨A, c, rfl, h2, h3, h4⟩ := h.reads hS
  subst hm
  exact ⟨A, c, by rw [List.length_map], h2, by rw [List.length_map]; exact h3, h4, hb⟩
theorem GotNodes.mono {S S' : Nat → Prop} {w : World} {m : List Nd} {e : Ending} {w' : World} (h : GotNodes S w m e w') (hs : ∀ b, b < w'.heap.size → S b → S' b) : GotNodes S' w m e w' := by
  obtain ⟨A, c, h1, h2, h3⟩ := h
  exact ⟨A, c, h1, h2.mono hs, h3⟩

/-- Kids in a row of one's own, under a node. -/
theorem kid_own {S : Nat → Prop} {w : World} {base : Nat} {kv : Value} {ks : List Int} {nd : Nd} (h : w.ownsRow base 3 1 kv ks.length (ks.map (Value.int .i64))) (hz : ∀ z ∈ ks, (Lit.int .i64 z).wf = true)
    (s0 : small64 nd.kind) (s2 : small64 nd.lo) (s3 : small64 nd.hi) (s1 : nd.name.size ≤ maxLen) (hS : ∀ b, base ≤ b → S b) : ∃ K c, kv = .slice K ks.length c ∧ KidOk S w ({ nd with kids := ks }, K, c) := by
  obtain ⟨K, c, rfl, h1, h2, -, h4⟩ := own_slice h
  exact ⟨K, c, rfl, ⟨s0, s2, s3, s1, Rd.own h hz, h1, h2⟩, fun a e _ => hS _ (h4 a e).1⟩
theorem KidOk.setCell {S : Nat → Prop} {w : World} {s : SNd} (h : KidOk S w s) (p : Addr) (u : Value) (hp : ∀ b, S b → p.block ≠ b) : KidOk S (w.setCell p u) s :=
  h.keep fun q _ hq hc => (World.cell?_setCell_far w p q u (hp _ hq)).trans hc
theorem wf_moved {ks : List Int} {d B : Int} (h : ∀ k ∈ ks, 0 ≤ k ∧ k < B) (hd : -B ≤ d ∧ d ≤ B) (hB : B ≤ 1048576) : ∀ z ∈ ks.map (· + d), (Lit.int .i64 z).wf = true := by
  intro z hz
  obtain ⟨k, hk, rfl⟩ := List.mem_map.1 hz
  have := h k hk
  exact WalkArith.wf_i64 (by omega)
theorem part_cut {l : List Nd} {i f : Nat} (j : Nat) (hj : j < i + 1 - f) : ((l.take (i + 1)).drop f)[j]? = l[f + j]? := by
  rw [List.getElem?_drop, List.getElem?_take_of_lt (by omega)]
theorem part_len {l : List Nd} {i f : Nat} (hi : i < l.length) : ((l.take (i + 1)).drop f).length = i + 1 - f := by
  rw [List.length_drop, List.length_take]; omega
/-- A slice from a place up to a place. -/
theorem slice_part {P : Program} (t : TypeId) (ht : P.underlying t = some (.slice (P.elem t))) (size : Nat) (hs : (P.info? (P.elem t)).map (·.size) = some size) (A : Option Addr) (n cap k m : Nat) (hk : k ≤ m) (hm : m ≤ cap) (W : World) :
    (Instr.slice t (.slice A n cap) (some (.int .i64 (k : Int))) (some (.int .i64 (m : Int))) none).run P W = .ok (.slice (fromAddr A cap k size) (m - k) (cap - k)) W := by
  rw [run_slice_lh W t A n cap ht .i64 .i64 (k : Int) (m : Int) (by omega) (by omega) (by omega)]
  obtain ⟨i, hi, hz⟩ := Option.map_eq_some_iff.1 hs
  simp [sizeOf, typeInfo, hi, hz, Result.andThen, sliced, fromAddr]
theorem sizeElemNodes : (Tryz.prog.info? (Tryz.prog.elem 23)).map (·.size) = some 5 := by kernel_rfl
theorem typeNodes : Tryz.prog.underlying 23 = some (.slice (Tryz.prog.elem 23)) := by kernel_rfl

/-- The moved kids of the nodes of a part. -/
def cutL (l : List Nd) (f i : Nat) : List Nd := ((l.take (i + 1)).drop f).map (shiftNd (-(f : Int)))
theorem cut_next {l : List Nd} {f i j : Nat} {nd : Nd} (hi : i < l.length) (hj : j < i + 1 - f) (h : l[f + j]? = some nd) : (cutL l f i).take (j + 1) = (cutL l f i).take j ++ [shiftNd (-(f : Int)) nd] := by
  unfold cutL
  have hl := part_len (f := f) hi
  have hj' : j < (((l.take (i + 1)).drop f).map (shiftNd (-(f : Int)))).length := by rw [List.length_map, hl]; exact hj
  rw [List.take_succ_eq_append_getElem hj']
  congr 2
  rw [List.getElem_map]
  have := part_cut (l := l) (i := i) (f := f) j hj
  rw [h, List.getElem?_eq_getElem (by omega)] at this
  rw [Option.some.inj this]

theorem kid_cells {nd : Nd} {ks : List Int} {K : Option Addr} {c m : Nat} (h : ks.length = m) : cellsS ({ nd with kids := ks }, K, c) = [.int .i64 nd.kind, .string nd.name, .int .i64 nd.lo, .int .i64 nd.hi, .slice K m c] := by
  subst h; rfl
theorem moved_next (ks : List Int) (j t : Nat) (d : Int) (h : ks.take (j + 1) = ks.take j ++ [(t : Int)]) : ((ks.take j).map (· + d)) ++ [(t : Int) + d] = (ks.take (j + 1)).map (· + d) := by
  rw [h, List.map_append]; rfl
end Go.Proofs.YthcbgneoonekkaaGreatDoor.Tree
