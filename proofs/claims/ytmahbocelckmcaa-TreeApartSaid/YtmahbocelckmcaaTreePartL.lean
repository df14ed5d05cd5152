/-
  The walk of the landed tree's Part. By an AI agent.
-/
import Derived.Test.YtmahbocelckmcaaTreeMoved
import Derived.Test.YtmahbocelckmcaaTreeMayL
namespace Go.Proofs.Ytmahbocelckmcaa.Tree
open Go.RowKit Go.Proofs.Ytmahbocelckmcaa.Ints

/-- The names of a list that may be are short. -/
theorem may_name {l : List Nd} (h : mayL l = true) {i : Nat} {n : Nd} (hi : l[i]? = some n) : n.name.size ≤ 16 := by
  obtain ⟨st, -, h2, -, -⟩ := may_node h hi
  obtain ⟨-, -, -, h4, h5⟩ := shape_parts h2
  have hs : n.name.data.toList.length = n.name.size := Array.length_toList
  by_cases h3 : n.kind = 3
  · have := h4 h3
    rcases Nat.lt_or_ge 16 n.name.data.toList.length with h6 | h6
    · rw [Lex.name_not (Or.inr h6)] at this; cases this
    · omega
  · have := h5 h3
    rw [this] at hs
    simp at hs
    omega

theorem kid_new {w wr w1 : World} {o : Obj} {sn : SNd} {u : Value} (hk : KidOk (fun b => (wr.alloc o).heap.size ≤ b) w1 sn) (hw : w.heap.size ≤ wr.heap.size) (hu : ∀ z, u.ownBlock = some z → z < wr.heap.size) : KidOk (fun b => w.heap.size ≤ b ∧ some b ≠ u.ownBlock) w1 sn :=
  hk.mono fun b _ hb => by
    have hb' : wr.heap.size + 1 ≤ b := by simpa using hb
    exact ⟨by omega, fun e => by have := hu b e.symm; omega⟩

set_option maxHeartbeats 8000000 in
set_option maxRecDepth 100000 in
theorem landPart (A : Option Addr) (n c : Nat) (i : Int) (l : List Nd) (w : World) (hl : l.length = n) (hn : n ≤ 1048576) (hnc : n ≤ c) (h : Nodes Any w A l) (hi : small64 i) :
    Calls Try.prog 20 #[.slice A n c, .int .i64 i] w (GotNodes (fun b => w.heap.size ≤ b) w (partL l i)) := by
  obtain ⟨j0, hj0, hy0, hy1, hy2⟩ := info_parts infoNode
  have hni : (n : Int) ≤ 1048576 := by omega
  obtain ⟨hi1, hi2⟩ := hi
  have hM := fun W (hb : Below w.heap.size w W) => landMay A n c l W hl hn (h.below hb)
  have HL := Lib.hid hl
  have HD := Lib.hid h
  have HN := Lib.hid hn
  clear hl hn h
  rcases hm : mayL l
  · have HR := Lib.hid (show partL l i = [] by unfold partL; rw [if_neg (by rw [hm]; simp)])
    rw [hm] at hM
    have HM := Lib.hid hM
    clear hM hm
    go_enter Try.func20, Try.ntmps20
    go_wp2_with (go_at_call 27; refine (HM.out _ (Below.refl _ _)).mono ?_; rintro e w1 ⟨rfl, hb1⟩)
    go_ret
    rw [HR.out]
    exact GotNodes.none0 hb1
  · have HMY := Lib.hid hm
    rw [hm] at hM
    have HM := Lib.hid hM
    by_cases hlo : i < 0
    · have HR := Lib.hid (show partL l i = [] by unfold partL; rw [if_neg (by omega)])
      clear hM hm
      go_enter Try.func20, Try.ntmps20
      go_wp2_with (go_at_call 27; refine (HM.out _ (Below.refl _ _)).mono ?_; rintro e w1 ⟨rfl, hb1⟩)
      go_ret
      rw [HR.out]
      exact GotNodes.none0 hb1
    · have hlo' : decide (i < 0) = false := decide_eq_false hlo
      by_cases hhi : (n : Int) ≤ i
      · have HR := Lib.hid (show partL l i = [] by unfold partL; rw [if_neg (by have := HL.out; omega)])
        clear hM hm
        go_enter Try.func20, Try.ntmps20
        go_wp2_with (go_at_call 27; refine (HM.out _ (Below.refl _ _)).mono ?_; rintro e w1 ⟨rfl, hb1⟩)
        go_ret
        rw [HR.out]
        exact GotNodes.none0 hb1
      · have hhi' : decide ((n : Int) ≤ i) = false := decide_eq_false hhi
        obtain ⟨q, rfl⟩ := Int.eq_ofNat_of_zero_le (show 0 ≤ i by omega)
        have hqn : q < n := by omega
        have HR := Lib.hid (show partL l (q : Int) = cutL l (startL l q) q by unfold partL cutL; rw [if_pos ⟨hm, by have := HL.out; omega⟩, Int.toNat_natCast])
        have hfq := startL_le hm q (by have := HL.out; omega)
        have hS := fun W (hb : Below w.heap.size w W) => landStart A n c q l W HL.out HN.out (HD.out.below hb) hm hqn
        obtain ⟨f, hf⟩ : ∃ f, startL l q = f := ⟨_, rfl⟩
        rw [hf] at hS hfq HR
        have HST := Lib.hid hS
        obtain ⟨t, ht⟩ : ∃ t, q + 1 - f = t := ⟨_, rfl⟩
        have hsl := slice_part (P := Try.prog) 22 typeNodes 5 sizeElemNodes A n c f (q + 1) (by omega) (by omega)
        rw [ht, Int.natCast_add, Int.natCast_one] at hsl
        obtain ⟨T, hT⟩ : ∃ T, fromAddr A c f 5 = T := ⟨_, rfl⟩
        obtain ⟨cT, hcT⟩ : ∃ cT, c - f = cT := ⟨_, rfl⟩
        rw [hT, hcT] at hsl
        obtain ⟨b, off, eA, hnodes⟩ := HD.out (by have := HL.out; omega)
        have hTe : T = some ⟨b, off + f * 5, none⟩ := by
          rw [← hT, eA]
          unfold fromAddr
          rw [if_neg (by omega)]
          unfold Addr.add
          simp
        subst hTe
        have HNS := Lib.hid hnodes
        have HT := Lib.hid ht
        have hti : (t : Int) ≤ 1048576 := by omega
        have hfi : (f : Int) ≤ 1048576 := by omega
        subst eA
        have HTI := Lib.hid (show (q : Int) + 1 - (f : Int) = (t : Int) by omega)
        have bm1 : j0.bytes * t ≤ 281474976710656 := by rw [hy2]; omega
        have bm2 : t ≤ maxLen := by unfold maxLen; omega
        clear hM hm hS hf hT hcT hnodes ht hnc
        go_enter Try.func20, Try.ntmps20
        go_wp2_with (first
          | (go_at_call 27; refine (HM.out _ (Below.refl _ _)).mono ?_; rintro e w1 ⟨rfl, hb1⟩)
          | (go_at_call 45; refine (HST.out _ hb1).mono ?_; rintro e w2 ⟨rfl, rfl⟩)
          | (at_make; go_loud (refine wpList_make_own _ rfl _ _ 22 rfl w.heap.size 33 j0 _ 5 Try.underlying22 hj0 hy0 hy1 .i64 .i64 _ t rfl rfl (by first | exact HTI.out | omega) bm1 bm2 hb1.size ?_; intro w3 hmade hgr3; have HMD := Lib.hid hmade; have HB1 := Lib.hid (hb1.trans (((Below.refl _ _).grown hgr3 (Nat.le_refl _) (fun z hz => by cases hz)).mono hb1.size)); clear hmade hgr3)))
        clear hb1
        generalize Value.slice (some ⟨w2.heap.size, 0, none⟩) 0 t = v0 at HMD ⊢
        go_loopw [6, 36] (fun v i wr => ∃ (j : Nat) (σ : List SNd), j ≤ t ∧ i = .int .i64 j ∧ OwnNodes (fun b => w.heap.size ≤ b) wr w.heap.size v σ ∧ σ.length = j ∧ Hid (σ.map (·.1) = (cutL l f q).take j) ∧ Below w.heap.size w wr) (fun _ i _ => t - (intOf i).toNat)
        case atStart => exact ⟨0, [], Nat.zero_le _, rfl, ⟨HMD.out, fun s hs => by simp at hs⟩, rfl, rfl, HB1.out⟩
        case round =>
          obtain ⟨j, σ, hj, rfl, hown, hσ, HC, hB⟩ := hrel
          have HO := Lib.hid hown
          have HB := Lib.hid hB
          have HSG := Lib.hid hσ
          clear hown hB hσ
          by_cases hjt : j < t
          · have hjt' : (j : Int) < (t : Int) := by omega
            obtain ⟨nd, hnd⟩ : ∃ nd, l[f + j]? = some nd := ⟨_, List.getElem?_eq_getElem (by have := HL.out; have := HT.out; omega)⟩
            obtain ⟨x0, x1, x2, x3, s0, s2, s3, s1, K, cK, x4, hK, hKc, hcK, -, -⟩ := HNS.out (f + j) nd hnd
            rw [show off + 5 * (f + j) = off + f * 5 + j * 5 by omega] at x0 x1 x2 x3 x4
            replace x0 := below_cell HB.out x0
            replace x1 := below_cell HB.out x1
            replace x2 := below_cell HB.out x2
            replace x3 := below_cell HB.out x3
            replace x4 := below_cell HB.out x4
            obtain ⟨m, hm⟩ : ∃ m, nd.kids.length = m := ⟨_, rfl⟩
            have HMV := Lib.hid (fun W (hb : Below wr.heap.size wr W) => landMoved nd K m cK (-(f : Int)) W hm ⟨s0, s2, s3, s1, (hK.below HB.out).below hb, hKc, hcK⟩ (by rw [← hm]; have := may_arity HMY.out hnd; omega) (fun x hx => by have := may_kids HMY.out hnd x hx; have := HL.out; have := HT.out; omega) (by omega) (by have := may_name HMY.out hnd; omega))
            rw [hm] at x4
            have HND := Lib.hid hnd
            have HLT := Lib.hid (fun z hz => (HO.out.1.lt z hz).2)
            have HSL := Lib.hid (show σ.length ≤ 4194304 by have := HSG.out; omega)
            clear hnd hK hm s0 s2 s3 s1 hKc hcK
            go_wp2_with (first
              | (go_at_call 41; refine (HMV.out _ ((Below.refl _ _).alloc (Nat.le_refl _) _)).mono ?_; rintro e w1 ⟨K', c', rfl, hk1, hb1⟩; have HBW := Lib.hid (below_box hb1); have HOX := Lib.hid (HO.out.below HBW.out); have HQ2 := Lib.hid (Nat.le_trans HB.out.size HBW.out.size); have HKN := Lib.hid (kid_new hk1 HB.out.size HLT.out); clear hk1 hb1)
              | (at_builtin; go_loud (refine wpList_append_nd rfl (.tmp 40) (.tmp 45) 22 rfl w.heap.size j0 _ Try.underlying22 hj0 hy0 hy1 hy2 rfl _ σ (by rfl) (fun b => w.heap.size ≤ b) HOX.out (shiftNd (-(f : Int)) nd, K', c') HKN.out _ _ (by rfl) w1.heap.size rfl (by rfl) HSL.out HQ2.out ?_; intro v1 w3 hown1 hgr1 _)))
            go_roundw
            case rel => exact ⟨j + 1, σ ++ [(shiftNd (-(f : Int)) nd, K', c')], by omega, by go_num, hown1, by rw [List.length_append, HSG.out]; rfl, by rw [List.map_append, HC.out, cut_next (by have := HL.out; omega) (by have := HT.out; omega) HND.out]; rfl, (((HB.out.trans (HBW.out.mono HB.out.size)).alloc HQ2.out _).grown hgr1 (le_alloc HQ2.out) (fun z hz => (HO.out.1.lt z hz).1))⟩
            case measure => simp [intOf]; omega
          · have hge : decide ((j : Int) < (t : Int)) = false := by simp; omega
            have e : j = t := by omega
            have HF := Lib.hid (GotNodes.own (w := w) HO.out (m := cutL l f q) (by rw [HC.out]; exact List.take_of_length_le (by unfold cutL; rw [List.length_map, part_len (by have := HL.out; omega)]; have := HT.out; omega)) (fun b hb _ => hb) HB.out)
            clear e
            go_wp2
            go_ret
            rw [HR.out]
            exact HF.out
end Go.Proofs.Ytmahbocelckmcaa.Tree
