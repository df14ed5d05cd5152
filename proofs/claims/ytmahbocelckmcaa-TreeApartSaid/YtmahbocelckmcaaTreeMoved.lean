/-
  The walks of strings.Clone and of the landed tree's start and moved. By an AI agent.
-/
import Derived.Test.YtmahbocelckmcaaTreeOne
import Derived.Test.YtmahbocelckmcaaTreeWhole
import Derived.Test.YtmahbocelckmcaaTreeDepth
import Derived.Test.YtmahbocelckmcaaShelf
import Derived.Deep.RegionHeld3
import Derived.Laws.Rows
namespace Go.Proofs.Ytmahbocelckmcaa.Tree
open Go.RowKit Go.Proofs.Ytmahbocelckmcaa.Ints

theorem cloneStr (s : ByteArray) (w : World) (_hs : s.size ≤ maxLen) (hlim : s.size ≤ 281474976710656) :
    Calls Try.prog 42 #[.string s] w fun e w' => e = .returned (.string s) ∧ Below w.heap.size w w' := by
  have HC := Lib.hid (fun W => Try.stringslite_Clone s W hlim)
  clear _hs hlim
  go_enter Try.func42, Try.ntmps42
  go_wp2_with (go_at_call 62; refine (HC.out _).mono ?_; rintro e w1 ⟨rfl, hb1⟩)
  go_ret
  exact ⟨rfl, hb1⟩

set_option maxHeartbeats 4000000 in
theorem landStart (A : Option Addr) (n c i : Nat) (l : List Nd) (w : World) (hl : l.length = n) (hn : n ≤ 1048576) (h : Nodes Any w A l) (hm : mayL l = true) (hi : i < n) :
    Calls Try.prog 45 #[.slice A n c, .int .i64 (i : Int)] w fun e w' => e = .returned (.int .i64 (startL l i : Int)) ∧ w' = w := by
  have hni : (n : Int) ≤ 1048576 := by omega
  have HL := Lib.hid hl
  have HM := Lib.hid hm
  have HD := Lib.hid h
  obtain ⟨R, hR⟩ : ∃ R, startL l i = R := ⟨_, rfl⟩
  rw [hR]
  have HR := Lib.hid hR
  have hii : (i : Int) < (n : Int) := by omega
  have HI := Lib.hid hi
  clear hl hn h hm hR hi
  go_enter Try.func45, Try.ntmps45
  go_wp2
  go_loop [1] (fun v => ∃ q : Nat, q < n ∧ v = .int .i64 q ∧ Hid (startL l q = R)) (fun v => (intOf v).toNat)
  case atStart => exact ⟨i, HI.out, rfl, HR⟩
  case round =>
    obtain ⟨q, hq, rfl, HQ⟩ := hrel
    have hq0 : (0 : Int) ≤ (q : Int) := by omega
    have hqn : (q : Int) < (n : Int) := by omega
    obtain ⟨b, off, e, hnodes⟩ := HD.out (by have := HL.out; omega)
    obtain ⟨nd, hnd⟩ : ∃ nd, l[q]? = some nd := ⟨_, List.getElem?_eq_getElem (by have := HL.out; omega)⟩
    obtain ⟨x0, x1, x2, x3, s0, s2, s3, s1, K, cK, x4, hK, hKc, hcK, -, -⟩ := hnodes q nd hnd
    rw [Nat.mul_comm 5 q] at x4
    obtain ⟨m, hm⟩ : ∃ m, nd.kids.length = m := ⟨_, rfl⟩
    rw [hm] at x4 hK hKc
    have hm64 : (m : Int) ≤ 9223372036854775807 := by have : maxLen = 9223372036854775807 := rfl; omega
    subst e
    by_cases h0 : m = 0
    · have hkn : nd.kids = [] := List.eq_nil_of_length_eq_zero (by omega)
      have HF := Lib.hid (show R = q by rw [← HQ.out]; exact start_leaf hnd hkn)
      subst h0
      clear hnd hnodes hK hm hkn x0 x1 x2 x3
      go_wp2
      go_ret
      exact ⟨by rw [HF.out]; rfl, rfl⟩
    · obtain ⟨k, ks, hks⟩ : ∃ k ks, nd.kids = k :: ks := by
        cases hh : nd.kids with
        | nil => rw [hh] at hm; simp at hm; omega
        | cons k ks => exact ⟨k, ks, rfl⟩
      have hkb := may_kids HM.out hnd k (by rw [hks]; exact List.mem_cons_self)
      obtain ⟨t, rfl⟩ := Int.eq_ofNat_of_zero_le hkb.1
      have htq : (t : Int) < (q : Int) := hkb.2
      obtain ⟨bk, ok, eK, hkc⟩ := hK.cell (by omega)
      have ck := hkc 0 (by omega)
      rw [hks, Nat.add_zero] at ck
      simp only [List.getElem?_cons_zero, Option.getD_some] at ck
      have HQ2 := Lib.hid (show startL l t = R by rw [← HQ.out]; exact (start_kids (kids_ahead HM.out) hnd hks).symm)
      subst eK
      have hm0 : 0 < m := by omega
      have hm0' : (0 : Int) < (m : Int) := by omega
      clear hnd hnodes hK hm hks hkb hkc x0 x1 x2 x3 h0
      go_wp2
      go_round
      case rel => exact ⟨t, by omega, rfl, HQ2⟩
      case measure => simp [intOf]; omega

/-- The kids in the j-th round: moved up to there, nought from there on. -/
def mRow (ks : List Int) (d : Int) (j : Nat) : List Int := (ks.take j).map (· + d) ++ List.replicate (ks.length - j) 0
theorem mRow_zero (ks : List Int) (d : Int) : List.replicate ks.length 0 = mRow ks d 0 := by
  unfold mRow
  simp
theorem mRow_done (ks : List Int) (d : Int) : mRow ks d ks.length = ks.map (· + d) := by
  unfold mRow
  simp
theorem mRow_set {ks : List Int} {d : Int} {j : Nat} {k : Int} (h : ks[j]? = some k) : (mRow ks d j).set j (k + d) = mRow ks d (j + 1) := by
  obtain ⟨hj, rfl⟩ := List.getElem?_eq_some_iff.1 h
  unfold mRow
  have hl : ((ks.take j).map (· + d)).length = j := by rw [List.length_map, List.length_take]; omega
  rw [List.set_append_right _ _ (by omega), hl, Nat.sub_self, List.take_succ_eq_append_getElem hj, List.map_append, List.append_assoc]
  congr 1
  rw [show ks.length - j = (ks.length - (j + 1)) + 1 by omega, List.replicate_succ]
  rfl
theorem mRow_len (ks : List Int) (d : Int) (j : Nat) (h : j ≤ ks.length) : (mRow ks d j).length = ks.length := by
  unfold mRow
  rw [List.length_append, List.length_map, List.length_take, List.length_replicate]; omega
/-- What moved leaves. -/
def GotNode (w : World) (nd : Nd) (e : Ending) (w' : World) : Prop :=
  ∃ K c, e = .returned (.agg #[.int .i64 nd.kind, .string nd.name, .int .i64 nd.lo, .int .i64 nd.hi, .slice K nd.kids.length c]) ∧ KidOk (fun b => w.heap.size ≤ b) w' (nd, K, c) ∧ Below w.heap.size w w'

theorem undrew1 {B : Nat} {a w' : World} (h : Below B a.drew w') : Below B a w' := ⟨h.os, h.tape, h.output, h.size, h.block⟩
theorem two_size (w : World) (o1 o2 : Obj) : ((w.alloc o1).alloc o2).heap.size = w.heap.size + 2 := by simp
theorem undrewN {B : Nat} {a w' : World} {q : Nat} (h : Below B (a.drewN q) w') : Below B a w' := ⟨h.os, h.tape, h.output, h.size, h.block⟩
theorem BoxAt.set {w : World} {g : Nat} {cs : Array Value} (h : BoxAt w g cs) (j : Nat) (v : Value) : BoxAt (w.setCell ⟨g, j, none⟩ v) g (cs.setIfInBounds j v) := heap_setCell_same w g j cs _ v h
theorem BoxAt.far {w : World} {g g' : Nat} {cs : Array Value} (h : BoxAt w g cs) (hne : g ≠ g') (j : Nat) (v : Value) : BoxAt (w.setCell ⟨g', j, none⟩ v) g cs := (heap_setCell_other w ⟨g', j, none⟩ g v hne).trans h
def fiveW (w : World) (g : Nat) (a0 a1 a2 a3 a4 : Value) : World := ((((w.setCell ⟨g, 0, none⟩ a0).setCell ⟨g, 1, none⟩ a1).setCell ⟨g, 2, none⟩ a2).setCell ⟨g, 3, none⟩ a3).setCell ⟨g, 4, none⟩ a4
theorem five_set {w : World} {g : Nat} {z0 z1 z2 z3 z4 : Value} (h : BoxAt w g #[z0, z1, z2, z3, z4]) (a0 a1 a2 a3 a4 : Value) : BoxAt (fiveW w g a0 a1 a2 a3 a4) g #[a0, a1, a2, a3, a4] := by
  have := ((((h.set 0 a0).set 1 a1).set 2 a2).set 3 a3).set 4 a4
  unfold fiveW
  simpa using this
theorem five_below {B : Nat} {a w : World} {g : Nat} (h : Below B a w) (hg : B ≤ g) (a0 a1 a2 a3 a4 : Value) : Below B a (fiveW w g a0 a1 a2 a3 a4) :=
  ((((h.setCell (p := ⟨g, 0, none⟩) hg a0).setCell (p := ⟨g, 1, none⟩) hg a1).setCell (p := ⟨g, 2, none⟩) hg a2).setCell (p := ⟨g, 3, none⟩) hg a3).setCell (p := ⟨g, 4, none⟩) hg a4
theorem five_row {w : World} {base g : Nat} {e : TypeId} {v : Value} {n : Nat} {xs : List Value} (h : w.ownsRow base e 1 v n xs) (hg : g < base) (a0 a1 a2 a3 a4 : Value) : (fiveW w g a0 a1 a2 a3 a4).ownsRow base e 1 v n xs := by
  have one : ∀ (w : World) (j : Nat) (u : Value), w.ownsRow base e 1 v n xs → (w.setCell ⟨g, j, none⟩ u).ownsRow base e 1 v n xs := fun w j u h =>
    h.kept (row := some g) ⟨rfl, rfl, rfl, by simp, fun i _ hne => Below.heap_setCell w _ u i (fun e => hne (by rw [e]))⟩ (by
      cases hv : v.ownBlock with
      | none => exact Or.inl rfl
      | some q => exact Or.inr fun e => by injection e with e; have := (h.lt q hv).1; omega)
  exact one _ _ _ (one _ _ _ (one _ _ _ (one _ _ _ (one _ _ _ h))))
/-- The two boxes ahead of the row. -/
theorem boxes_made {w w2 : World} {cs zs : Array Value} (hg : ((w.alloc (.cells cs 33)).alloc (.cells zs 33)).grownBy w2 none) : BoxAt w2 w.heap.size cs ∧ BoxAt w2 (w.heap.size + 1) zs ∧ Below w.heap.size w w2 ∧ w.heap.size + 2 ≤ w2.heap.size := by
  have h1 : BoxAt ((w.alloc (.cells cs 33)).alloc (.cells zs 33)) w.heap.size cs := blk_alloc (new_at w _)
  have h2 : BoxAt ((w.alloc (.cells cs 33)).alloc (.cells zs 33)) (w.heap.size + 1) zs := new_at2 w _ _
  refine ⟨h1.grown hg (by simp), h2.grown hg (by simp), ((((Below.refl _ _).alloc (Nat.le_refl _) _).alloc (le_alloc (Nat.le_refl _)) _).grown hg (le_alloc (le_alloc (Nat.le_refl _))) (fun q hq => by cases hq)), ?_⟩
  have := hg.size
  simp at this
  omega

set_option maxHeartbeats 8000000 in
set_option maxRecDepth 100000 in
theorem landMoved (nd : Nd) (K : Option Addr) (m c : Nat) (d : Int) (w : World) (hm : nd.kids.length = m) (hok : NodeOk w nd K c) (hm2 : m ≤ 1048576) (hks : ∀ k ∈ nd.kids, 0 ≤ k ∧ k < 1048576) (hd : -1048576 ≤ d ∧ d ≤ 1048576) (hs : nd.name.size ≤ 281474976710656) :
    Calls Try.prog 41 #[.agg #[.int .i64 nd.kind, .string nd.name, .int .i64 nd.lo, .int .i64 nd.hi, .slice K m c], .int .i64 d] w (GotNode w (shiftNd d nd)) := by
  obtain ⟨i0, hi, hz0, hz1, hz2⟩ := info_parts infoInt
  obtain ⟨s0, s2, s3, s1, hK, hKc, hcK⟩ := hok
  rw [hm] at hK hKc
  have hmi : (m : Int) ≤ 1048576 := by omega
  have hm0 : (0 : Int) ≤ (m : Int) := by omega
  obtain ⟨d1, d2⟩ := hd
  have HM := Lib.hid hm
  have HK := Lib.hid hK
  have HKS := Lib.hid hks
  have HSM := Lib.hid (⟨s0, s2, s3, s1⟩ : small64 nd.kind ∧ small64 nd.lo ∧ small64 nd.hi ∧ nd.name.size ≤ maxLen)
  have HCL := Lib.hid (fun W => cloneStr nd.name W s1 hs)
  have b1 : i0.bytes * m ≤ 281474976710656 := by rw [hz2]; omega
  have b2 : m ≤ maxLen := by unfold maxLen; omega
  clear hm hK hks s0 s2 s3 s1 hs hcK hKc
  go_enter Try.func41, Try.ntmps41
  go_wp2_with (at_make; go_loud (refine wpList_make_full _ rfl _ _ 31 rfl (w.heap.size + 2) 3 i0 (.int .i64 0) 1 Try.underlying31 hi hz0 hz1 .i64 .i64 _ _ m rfl rfl (by first | rfl | omega) (by first | rfl | omega) b1 b2 (by simp) ?_; intro w2 hmade hgr1; rw [made_ints, two_size] at hmade; obtain ⟨hx, hz, hb2, hs2⟩ := boxes_made hgr1; have c0 := hx.cell 0 _ rfl; have c1 := hx.cell 1 _ rfl; have c2 := hx.cell 2 _ rfl; have c3 := hx.cell 3 _ rfl; have c4 := hx.cell 4 _ rfl; have HX := Lib.hid hx; have HZ := Lib.hid hz; have HB2 := Lib.hid hb2; have HMD := Lib.hid hmade; clear hx hz hb2 hmade hgr1))
  obtain ⟨g, hg⟩ : ∃ g, w.heap.size + 1 + 1 = g := ⟨_, rfl⟩
  rw [hg]
  replace HMD : Hid (w2.ownsRow g 3 1 (.slice (some ⟨g, 0, none⟩) m m) m ((List.replicate m 0).map (Value.int .i64))) := by rw [← hg]; exact HMD
  have hgl : w.heap.size + 2 ≤ g := by omega
  clear hg
  go_loopw [15] (fun i wr => ∃ j : Nat, j ≤ m ∧ i = .int .i64 j ∧ wr.ownsRow g 3 1 (.slice (some ⟨g, 0, none⟩) m m) m ((mRow nd.kids d j).map (Value.int .i64)) ∧ Hid (BoxAt wr w.heap.size #[.int .i64 nd.kind, .string nd.name, .int .i64 nd.lo, .int .i64 nd.hi, .slice K m c] ∧ BoxAt wr (w.heap.size + 1) #[.int .i64 0, .string { data := #[] }, .int .i64 0, .int .i64 0, .slice none 0 0] ∧ Below w.heap.size w wr)) (fun i _ => m - (intOf i).toNat)
  case atStart => exact ⟨0, Nat.zero_le _, rfl, by rw [← mRow_zero, HM.out]; exact HMD.out, HX.out, HZ.out, HB2.out⟩
  case round =>
    obtain ⟨j, hj, rfl, hrow, HW⟩ := hrel
    by_cases hjm : j < m
    · have hjm' : (j : Int) < (m : Int) := by omega
      have hj0 : (0 : Int) ≤ (j : Int) := by omega
      obtain ⟨kj, hkj⟩ : ∃ kj, nd.kids[j]? = some kj := ⟨_, List.getElem?_eq_getElem (by have := HM.out; omega)⟩
      obtain ⟨t0, t1⟩ := HKS.out kj (List.mem_of_getElem? hkj)
      obtain ⟨bk, ok, eK, hkc⟩ := (HK.out.below HW.out.2.2).cell (by omega)
      have ck := hkc j hjm
      rw [hkj, Option.getD_some] at ck
      have hc1 := own_cell hrow hjm
      have hf1 := hrow.frozenAt j
      have HRW := Lib.hid hrow
      have HKJ := Lib.hid hkj
      subst eK
      clear hkc hkj hrow
      go_wp2
      go_roundw
      case rel =>
        refine ⟨j + 1, by omega, by go_num, ?_, (HW.out.1.far (by omega) _ _), (HW.out.2.1.far (by omega) _ _), HW.out.2.2.setCell (p := ⟨g, j, none⟩) (by simp; omega) _⟩
        have := own_set HRW.out j (kj + d)
        rw [mRow_set HKJ.out] at this
        exact this
      case measure => simp [intOf]; omega
    · have hge : decide ((j : Int) < (m : Int)) = false := by simp; omega
      have e : j = m := by omega
      rw [show mRow nd.kids d j = nd.kids.map (· + d) by rw [e, ← HM.out, mRow_done]] at hrow
      have HRW := Lib.hid hrow
      have hx := HW.out.1
      have c0 := hx.cell 0 _ rfl
      have c1 := hx.cell 1 _ rfl
      have c2 := hx.cell 2 _ rfl
      have c3 := hx.cell 3 _ rfl
      clear hrow e hx
      go_wp2
      go_region_held3 (fun w' => w'.cell? ⟨w.heap.size, 0, none⟩ = some (.int .i64 nd.kind) ∧ w'.cell? ⟨w.heap.size, 1, none⟩ = some (.string nd.name) ∧ w'.cell? ⟨w.heap.size, 2, none⟩ = some (.int .i64 nd.lo) ∧ w'.cell? ⟨w.heap.size, 3, none⟩ = some (.int .i64 nd.hi)) (go_keep)
        (first
          | (go_at_call 42; refine (HCL.out _).mono ?_; rintro e w1 ⟨rfl, hb1⟩; have hb1' : Below wr.heap.size wr w1 := (by first | exact undrew1 hb1 | exact undrewN hb1 | exact hb1); have hx1 := HW.out.1.below hb1' HW.out.1.lt; have hz1 := HW.out.2.1.below hb1' HW.out.2.1.lt; have q0 := hx1.cell 0 _ rfl; have q1 := hx1.cell 1 _ rfl; have q2 := hx1.cell 2 _ rfl; have q3 := hx1.cell 3 _ rfl; have z0 := hz1.cell 0 _ rfl; have z1 := hz1.cell 1 _ rfl; have z2 := hz1.cell 2 _ rfl; have z3 := hz1.cell 3 _ rfl; have z4 := hz1.cell 4 _ rfl; have f0 := hz1.frozen 0; have f1 := hz1.frozen 1; have f2 := hz1.frozen 2; have f3 := hz1.frozen 3; have f4 := hz1.frozen 4; have HB1 := Lib.hid hb1'; have HZ1 := Lib.hid hz1; clear hb1 hb1' hx1 hz1)
          | fail)
      all_goals
        go_wp2
        have hr := five_set HZ1.out (.int .i64 nd.kind) (.string nd.name) (.int .i64 nd.lo) (.int .i64 nd.hi) (.slice (some ⟨g, 0, none⟩) m m)
        have r0 := hr.cell 0 _ rfl
        have r1 := hr.cell 1 _ rfl
        have r2 := hr.cell 2 _ rfl
        have r3 := hr.cell 3 _ rfl
        have r4 := hr.cell 4 _ rfl
        clear hr
        unfold fiveW at r0 r1 r2 r3 r4
        have hsl : (shiftNd d nd).kids.length = m := by
          show (nd.kids.map _).length = m
          rw [List.length_map, HM.out]
        have hrow := five_row (below_row HRW.out HB1.out) (show w.heap.size + 1 < g by omega) (.int .i64 nd.kind) (.string nd.name) (.int .i64 nd.lo) (.int .i64 nd.hi) (.slice (some ⟨g, 0, none⟩) m m)
        have HFR := Lib.hid (Rd.own hrow (wf_moved (B := 1048576) HKS.out ⟨d1, d2⟩ (by omega)))
        have HFB := Lib.hid (five_below (HW.out.2.2.trans (HB1.out.mono HW.out.2.2.size)) (show w.heap.size ≤ w.heap.size + 1 by omega) (.int .i64 nd.kind) (.string nd.name) (.int .i64 nd.lo) (.int .i64 nd.hi) (.slice (some ⟨g, 0, none⟩) m m))
        have HSL := Lib.hid hsl
        clear hsl hrow
        refine bodyPost_ret (v := .agg #[.int .i64 nd.kind, .string nd.name, .int .i64 nd.lo, .int .i64 nd.hi, .slice (some ⟨g, 0, none⟩) m m]) (by simp [results, Try.results41, go_sem, r0, r1, r2, r3, r4]) rfl ⟨some ⟨g, 0, none⟩, m, by rw [HSL.out]; rfl, ⟨⟨HSM.out.1, HSM.out.2.1, HSM.out.2.2.1, HSM.out.2.2.2, by rw [HSL.out]; exact HFR.out, by rw [HSL.out]; exact Nat.le_refl _, b2⟩, fun a ha _ => by injection ha with ha; subst ha; show w.heap.size ≤ g; omega⟩, HFB.out⟩
end Go.Proofs.Ytmahbocelckmcaa.Tree
