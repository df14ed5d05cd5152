/-
  The walk of the reference's Depth. By an AI agent.
-/
import Derived.Test.YtmahbocelckmcaaTreeRef2
import Derived.Laws.MakeOwn
import Derived.RegionTactic
import Derived.ChangeAlike
import Derived.StillTailTactics
import Derived.Lib.MinMax
namespace Go.Proofs.Ytmahbocelckmcaa.Tree
open Go.RowKit Go.Proofs.Ytmahbocelckmcaa.Ints

/-! ### plain -/
theorem deep_snoc (ds ks : List Int) (k : Int) : deep ds (ks ++ [k]) = max (deep ds ks) (ds[k.toNat]?.getD 0) := by
  unfold deep; rw [List.foldl_append]; rfl
theorem deep_bound {B : Int} (hB : 0 ≤ B) {ds : List Int} (h : ∀ j : Nat, 0 ≤ ds[j]?.getD 0 ∧ ds[j]?.getD 0 ≤ B) (ks : List Int) : 0 ≤ deep ds ks ∧ deep ds ks ≤ B := by
  have key : ∀ (ks : List Int) (m : Int), 0 ≤ m → m ≤ B → 0 ≤ ks.foldl (fun m k => max m (ds[k.toNat]?.getD 0)) m ∧ ks.foldl (fun m k => max m (ds[k.toNat]?.getD 0)) m ≤ B := by
    intro ks
    induction ks with
    | nil => intro m h1 h2; exact ⟨h1, h2⟩
    | cons k ks ih =>
      intro m h1 h2
      have := h k.toNat
      exact ih (max m (ds[k.toNat]?.getD 0)) (by omega) (by omega)
  exact key ks 0 (by omega) hB
theorem depths_bound (l : List Nd) : ∀ k, k ≤ l.length → ∀ j : Nat, 0 ≤ (depths (l.take k))[j]?.getD 0 ∧ (depths (l.take k))[j]?.getD 0 ≤ (k : Int) := by
  intro k
  induction k with
  | zero => intro _ j; simp [depths]
  | succ k ih =>
    intro hk j
    rw [List.take_succ_eq_append_getElem (by omega), depths_snoc]
    have ih := ih (by omega)
    have hb := deep_bound (B := (k : Int)) (by omega) ih l[k].kids
    have hl : (depths (l.take k)).length = k := by rw [depths_len, List.length_take]; omega
    rcases Nat.lt_trichotomy j k with h | h | h
    · rw [List.getElem?_append_left (by omega)]
      have := ih j; omega
    · subst h
      rw [List.getElem?_append_right (by omega), hl]
      simp; omega
    · rw [List.getElem?_eq_none (by rw [List.length_append, hl, List.length_singleton]; omega)]
      simp; omega
/-- The row of depths in the k-th round, the k-th at v. -/
def dRow (n k : Nat) (l : List Nd) (v : Int) : List Int := depths (l.take k) ++ v :: List.replicate (n - k - 1) 0
theorem dRow_len {n k : Nat} {l : List Nd} (hl : l.length = n) (hk : k < n) (v : Int) : (dRow n k l v).length = n := by
  unfold dRow
  rw [List.length_append, depths_len, List.length_take, List.length_cons, List.length_replicate]
  omega
theorem dRow_at {n k : Nat} {l : List Nd} (hl : l.length = n) (hk : k < n) (v : Int) : (dRow n k l v)[k]?.getD 0 = v := by
  have : (depths (l.take k)).length = k := by rw [depths_len, List.length_take]; omega
  unfold dRow
  rw [List.getElem?_append_right (by omega), this]
  simp
theorem dRow_low {n k j : Nat} {l : List Nd} (hl : l.length = n) (hk : k < n) (hj : j < k) (v : Int) : (dRow n k l v)[j]?.getD 0 = (depths (l.take k))[j]?.getD 0 := by
  have : (depths (l.take k)).length = k := by rw [depths_len, List.length_take]; omega
  unfold dRow
  rw [List.getElem?_append_left (by omega)]
theorem dRow_set {n k : Nat} {l : List Nd} (hl : l.length = n) (hk : k < n) (v u : Int) : (dRow n k l v).set k u = dRow n k l u := by
  have : (depths (l.take k)).length = k := by rw [depths_len, List.length_take]; omega
  unfold dRow
  rw [List.set_append_right _ _ (by omega), this, Nat.sub_self]
  rfl
theorem dRow_next {n k : Nat} {l : List Nd} {nd : Nd} (_hl : l.length = n) (hk : k + 1 < n) (hnd : l[k]? = some nd) : dRow n k l (deep (depths (l.take k)) nd.kids + 1) = dRow n (k + 1) l 0 := by
  obtain ⟨h1, rfl⟩ := List.getElem?_eq_some_iff.1 hnd
  unfold dRow
  rw [List.take_succ_eq_append_getElem h1, depths_snoc, List.append_assoc]
  congr 1
  have e : n - k - 1 = (n - (k + 1) - 1) + 1 := by omega
  rw [e, List.replicate_succ]; rfl
theorem dRow_done {n k : Nat} {l : List Nd} {nd : Nd} (hl : l.length = n) (hk : k + 1 = n) (hnd : l[k]? = some nd) : dRow n k l (deep (depths (l.take k)) nd.kids + 1) = depths l := by
  obtain ⟨h1, rfl⟩ := List.getElem?_eq_some_iff.1 hnd
  unfold dRow
  have e : n - k - 1 = 0 := by omega
  rw [e, List.replicate_zero, ← depths_snoc, ← List.take_succ_eq_append_getElem h1, List.take_of_length_le (by omega)]
theorem dRow_start (n : Nat) (l : List Nd) (h0 : 0 < n) : List.replicate n 0 = dRow n 0 l 0 := by
  obtain ⟨m, rfl⟩ : ∃ m, n = m + 1 := ⟨n - 1, by omega⟩
  unfold dRow
  rw [List.replicate_succ]
  simp [depths]
theorem dRow_wf {n k : Nat} {l : List Nd} (hl : l.length = n) (hn : n ≤ 1048576) (hk : k < n) (v : Int) (hv : 0 ≤ v ∧ v ≤ 1048577) : ∀ z ∈ dRow n k l v, (Lit.int .i64 z).wf = true := by
  intro z hz
  unfold dRow at hz
  rcases List.mem_append.1 hz with h | h
  · obtain ⟨j, hj, rfl⟩ := List.getElem_of_mem h
    have := depths_bound l k (by omega) j
    rw [List.getElem?_eq_getElem hj] at this
    simp only [Option.getD_some] at this
    exact WalkArith.wf_i64 (by omega)
  · rcases List.mem_cons.1 h with rfl | h
    · exact WalkArith.wf_i64 (by omega)
    · rw [(List.mem_replicate.1 h).2]; exact WalkArith.wf_i64 (by omega)
theorem made_ints (n : Nat) : (madeCells (Value.int .i64 0).cells (n * 1)).toList = (List.replicate n (0 : Int)).map (Value.int .i64) := by
  rw [Nat.mul_one]
  apply List.ext_getElem
  · simp [madeCells]
  · intro i h1 h2
    have e : (Value.int .i64 0).cells = #[Value.int .i64 0] := rfl
    simp [madeCells, e, Nat.mod_one]

def dAt (n k : Nat) (l : List Nd) : List Int := if k < n then dRow n k l 0 else depths l
theorem dAt_next {n k : Nat} {l : List Nd} {nd : Nd} (hl : l.length = n) (hk : k < n) (hnd : l[k]? = some nd) : dRow n k l (deep (depths (l.take k)) nd.kids + 1) = dAt n (k + 1) l := by
  unfold dAt
  by_cases h : k + 1 < n
  · rw [if_pos h]; exact dRow_next hl h hnd
  · rw [if_neg h]; exact dRow_done hl (by omega) hnd
set_option maxHeartbeats 8000000 in
set_option maxRecDepth 100000 in
theorem refDepth (A : Option Addr) (n c : Nat) (l : List Nd) (w : World) (hl : l.length = n) (hn : n ≤ 1048576) (h : Nodes Any w A l) :
    Calls Try.prog 31 #[.slice A n c] w fun e w' => e = .returned (.int .i64 (depthL l)) ∧ Below w.heap.size w w' := by
  obtain ⟨i0, hi, hz0, hz1, hz2⟩ := info_parts infoInt
  have hni : (n : Int) ≤ 1048576 := by omega
  have hM := fun W (hb : Below w.heap.size w W) => refMay A n c l W hl hn (h.below hb)
  have HL := Lib.hid hl
  have HD := Lib.hid h
  have HN := Lib.hid hn
  clear hl hn h
  rcases hm : mayL l
  · have HR := Lib.hid (show depthL l = 0 by unfold depthL; rw [hm]; rfl)
    rw [hm] at hM
    have HM := Lib.hid hM
    clear hM hm
    go_enter Try.func31, Try.ntmps31
    go_wp2_with (go_at_call 26; refine (HM.out _ (Below.refl _ _)).mono ?_; rintro e w1 ⟨rfl, hb1⟩)
    go_ret
    exact ⟨by rw [HR.out]; rfl, hb1⟩
  · have h0 := may_ne hm
    have hn0 : 0 < n := by rw [← HL.out]; exact h0
    have HR := Lib.hid (show depthL l = (depths l).getLast?.getD 0 by unfold depthL; rw [if_pos hm])
    have HMY := Lib.hid hm
    rw [hm] at hM
    have HM := Lib.hid hM
    have b1 : i0.bytes * n ≤ 281474976710656 := by rw [hz2]; have := HN.out; omega
    have b2 : n ≤ maxLen := by unfold maxLen; have := HN.out; omega
    have hn1 : (1 : Int) ≤ (n : Int) := by omega
    have hnn : (0 : Int) ≤ (n : Int) := by omega
    clear hM hm h0
    go_enter Try.func31, Try.ntmps31
    go_wp2_with (first
      | (go_at_call 26; refine (HM.out _ (Below.refl _ _)).mono ?_; rintro e w1 ⟨rfl, hb1⟩)
      | (at_make; refine wpList_make_full _ rfl _ _ 31 rfl w1.heap.size 3 i0 (.int .i64 0) 1 Try.underlying31 hi hz0 hz1 .i64 .i64 _ _ n rfl rfl (by first | rfl | omega) (by first | rfl | omega) b1 b2 (Nat.le_refl _) ?_; intro w2 hmade hgr1; rw [made_ints] at hmade))
    have hw1 : w.heap.size ≤ w1.heap.size := hb1.size
    have hB2 : Below w.heap.size w w2 := hb1.trans (((Below.refl _ _).grown hgr1 (Nat.le_refl _) (by simp)).mono hw1)
    rw [dRow_start n l hn0] at hmade
    have HMD := Lib.hid hmade
    have HB2 := Lib.hid hB2
    clear hmade hB2 hgr1 hb1
    obtain ⟨g, hg⟩ : ∃ g, w1.heap.size = g := ⟨_, rfl⟩
    rw [hg] at hw1 HMD ⊢
    clear hg
    go_loopw [16] (fun i wr => ∃ k : Nat, k ≤ n ∧ i = .int .i64 k ∧ wr.ownsRow g 3 1 (.slice (some ⟨g, 0, none⟩) n n) n ((dAt n k l).map (Value.int .i64)) ∧ Below w.heap.size w wr) (fun i _ => n - (intOf i).toNat)
    case atStart => exact ⟨0, Nat.zero_le _, rfl, by unfold dAt; rw [if_pos hn0]; exact HMD.out, HB2.out⟩
    case round =>
      obtain ⟨k, hk, rfl, hrow, hB⟩ := hrel
      have HRW := Lib.hid hrow
      have HB := Lib.hid hB
      clear hrow hB
      by_cases hkn : k < n
      · have hkn' : (k : Int) < (n : Int) := by omega
        have hk0 : (0 : Int) ≤ (k : Int) := by omega
        obtain ⟨b, off, e, hnodes⟩ := HD.out (by have := HL.out; omega)
        obtain ⟨nd, hnd⟩ : ∃ nd, l[k]? = some nd := ⟨_, List.getElem?_eq_getElem (by have := HL.out; omega)⟩
        obtain ⟨x0, x1, x2, x3, s0, s2, s3, s1, K, cK, x4, hK, hKc, hcK, -, -⟩ := hnodes k nd hnd
        rw [Nat.mul_comm 5 k] at x0 x1 x2 x3 x4
        replace x0 := below_cell HB.out x0
        replace x1 := below_cell HB.out x1
        replace x2 := below_cell HB.out x2
        replace x3 := below_cell HB.out x3
        replace x4 := below_cell HB.out x4
        have HND := Lib.hid hnd
        obtain ⟨m, hm⟩ : ∃ m, nd.kids.length = m := ⟨_, rfl⟩
        rw [hm] at x4 hK hKc
        have HMK := Lib.hid hm
        have HRK := Lib.hid hK
        have hm64 : (m : Int) ≤ 9223372036854775807 := by have : maxLen = 9223372036854775807 := rfl; omega
        have HRA := Lib.hid (show (wr.alloc (.cells #[.int .i64 nd.kind, .string nd.name, .int .i64 nd.lo, .int .i64 nd.hi, .slice K m cK] 33)).ownsRow g 3 1 (.slice (some ⟨g, 0, none⟩) n n) n ((dRow n k l (deep (depths (l.take k)) (nd.kids.take 0))).map (Value.int .i64)) by
          have := HRW.out
          unfold dAt at this
          rw [if_pos hkn] at this
          exact this.alloc _)
        subst e
        clear hnd hnodes hK hm
        go_wp2
        go_loopw [24] (fun i wx => ∃ j : Nat, j ≤ m ∧ i = .int .i64 j ∧ wx.ownsRow g 3 1 (.slice (some ⟨g, 0, none⟩) n n) n ((dRow n k l (deep (depths (l.take k)) (nd.kids.take j))).map (Value.int .i64)) ∧ Below w.heap.size w wx) (fun i _ => m - (intOf i).toNat)
        case atStart => exact ⟨0, Nat.zero_le _, rfl, HRA.out, HB.out.alloc HB.out.size _⟩
        case round =>
          obtain ⟨j, hj, rfl, hrow, hBx⟩ := hrel
          by_cases hjm : j < m
          · have hjm' : (j : Int) < (m : Int) := by omega
            obtain ⟨t, ht, htk, htake⟩ := kid_nat HMY.out HND.out (j := j) (by rw [HMK.out]; exact hjm)
            have hc1 := own_cell hrow hkn
            have hc2 := own_cell hrow (show t < n by omega)
            have hf1 := hrow.frozenAt k
            rw [dRow_at HL.out hkn] at hc1
            rw [dRow_low HL.out hkn htk] at hc2
            obtain ⟨v, hv⟩ : ∃ v, deep (depths (l.take k)) (nd.kids.take j) = v := ⟨_, rfl⟩
            obtain ⟨u, hu⟩ : ∃ u, (depths (l.take k))[t]?.getD 0 = u := ⟨_, rfl⟩
            rw [hv] at hc1
            rw [hu] at hc2
            have htn : (t : Int) < (n : Int) := by omega
            have ht0 : (0 : Int) ≤ (t : Int) := by omega
            obtain ⟨bk, ok, eK, hkc⟩ := (HRK.out.below hBx).cell (by omega)
            have ck := hkc j hjm
            rw [ht] at ck
            clear hkc
            subst eK
            have HRX := Lib.hid hrow
            have HBX := Lib.hid hBx
            have HV := Lib.hid hv
            have HU := Lib.hid hu
            have HT := Lib.hid htake
            clear hrow hBx hv hu htake ht
            go_wp2
            go_still_tail 12, (by kernel_rfl)
            go_wp2
            go_roundw
            case rel =>
              refine ⟨j + 1, by omega, by go_num, ?_, (HBX.out.setCell hw1 _).drew⟩
              have := own_set HRX.out k (max v u)
              rw [dRow_set HL.out hkn] at this
              rw [HT.out, deep_snoc, HV.out, Int.toNat_natCast, HU.out]
              exact this
            case measure => simp [intOf]; omega
          · have e : j = m := by omega
            have hge : decide ((j : Int) < (m : Int)) = false := by simp; omega
            have hc1 := own_cell hrow hkn
            have hf1 := hrow.frozenAt k
            rw [dRow_at HL.out hkn] at hc1
            have htk : nd.kids.take j = nd.kids := List.take_of_length_le (by rw [HMK.out]; omega)
            rw [htk] at hc1 hrow
            obtain ⟨v, hv⟩ : ∃ v, deep (depths (l.take k)) nd.kids = v := ⟨_, rfl⟩
            have hvb := deep_bound (B := (k : Int)) (by omega) (depths_bound l k (by have := HL.out; omega)) nd.kids
            rw [hv] at hc1 hrow hvb
            have hvb1 : 0 ≤ v := hvb.1
            have hvb2 : v ≤ 1048576 := by omega
            have HRX := Lib.hid hrow
            have HBX := Lib.hid hBx
            have HV := Lib.hid hv
            clear hrow hBx hv htk hvb e
            go_wp2
            go_roundw
            case rel =>
              refine ⟨k + 1, by omega, by go_num, ?_, HBX.out.setCell hw1 _⟩
              have := own_set HRX.out k (v + 1)
              rw [dRow_set HL.out hkn, ← HV.out, dAt_next HL.out hkn HND.out] at this
              rw [← HV.out]
              exact this
            case measure => simp [intOf]; omega
      · have e : k = n := by omega
        have hge : decide ((k : Int) < (n : Int)) = false := by simp; omega
        have hn1' : (0 : Int) ≤ (n : Int) - 1 := by omega
        have hrow := HRW.out
        unfold dAt at hrow
        rw [if_neg hkn] at hrow
        have hc1 := own_cell hrow (show n - 1 < n by omega)
        have hlast : (depths l)[n - 1]?.getD 0 = depthL l := by
          rw [HR.out, List.getLast?_eq_getElem?, depths_len, HL.out]
        rw [hlast] at hc1
        clear hrow hlast e
        go_wp2
        go_ret
        exact ⟨rfl, HB.out⟩
end Go.Proofs.Ytmahbocelckmcaa.Tree
