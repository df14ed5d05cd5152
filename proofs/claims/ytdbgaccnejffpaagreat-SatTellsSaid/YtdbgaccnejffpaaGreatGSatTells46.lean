/-
  The landed node: the kinds of paths, then any kind (stage 15). By an AI agent.
  The landed node of any kind; sat.All (stage 15). By an AI agent.
  The reference's Truths and All (stage 15). By an AI agent.
-/
import Derived.Test.YtdbgaccnejffpaaGreatGSatTells27
import Derived.Test.YtdbgaccnejffpaaGreatGSatTells45
import Derived.Test.YtdbgaccnejffpaaGreatGSatTells1
import Derived.Test.YtdbgaccnejffpaaGreatGSatTells24
import Derived.Test.YtdbgaccnejffpaaGreatGSatTells42
import Derived.Test.YtdbgaccnejffpaaGreatGSatTells34
import Derived.Test.YtdbgaccnejffpaaGreatGSatTells23
import Derived.Test.YtdbgaccnejffpaaGreatGSatTells10
namespace Go.Proofs.YtdbgaccnejffpaaGreat.Sat
open Go.RowKit Go.Proofs.YtdbgaccnejffpaaGreat.Ints Go.Proofs.YtdbgaccnejffpaaGreat.Mem Go.Proofs.YtdbgaccnejffpaaGreat.Src Go.Proofs.YtdbgaccnejffpaaGreat.Paths Go.Proofs.YtdbgaccnejffpaaGreat.Late Go.Proofs.YtdbgaccnejffpaaGreat.Trace
set_option maxHeartbeats 8000000 in
set_option maxRecDepth 100000 in
theorem node_16 (J : Jd) (w0 : World) (σ : List Value) (k m c : Nat) (nm : ByteArray) (lo hi : Int) (ks : List Int) (K : Option Addr) (w : World) (h : JS J w0 σ w) (hl : Live J k σ w) (hnv : Nv J w0 k ⟨16, nm, lo, hi, ks⟩ K m c) :
  Calls Tryz.prog 21 #[.pointer (some ⟨J.gj, 0, none⟩), .agg #[.int .i64 16, .string nm, .int .i64 lo, .int .i64 hi, .slice K m c]] w (GotNd J w0 k σ w) := by
 obtain ⟨W, hW⟩ : ∃ W, w.alloc (.cells #[.int .i64 16, .string nm, .int .i64 lo, .int .i64 hi, .slice K m c] 47) = W := ⟨_, rfl⟩
 have hbW : Below w.heap.size w W := by rw [← hW]; exact (Below.refl _ _).alloc (Nat.le_refl _) _
 have d0 : W.cell? ⟨w.heap.size, 0, none⟩ = some (.int .i64 16) := by rw [← hW]; exact box_cell 0 _ rfl
 have d1 : W.cell? ⟨w.heap.size, 1, none⟩ = some (.string nm) := by rw [← hW]; exact box_cell 1 _ rfl
 have d2 : W.cell? ⟨w.heap.size, 2, none⟩ = some (.int .i64 lo) := by rw [← hW]; exact box_cell 2 _ rfl
 have d3 : W.cell? ⟨w.heap.size, 3, none⟩ = some (.int .i64 hi) := by rw [← hW]; exact box_cell 3 _ rfl
 have d4 : W.cell? ⟨w.heap.size, 4, none⟩ = some (.slice K m c) := by rw [← hW]; exact box_cell 4 _ rfl
 have HC := Lib.hid (landBack J w0 σ k m c nm lo hi ks K W (h.later hbW) (hl.grown (grown_any hbW)) hnv)
 have HGW := Lib.hid (grown_any (o := J.bt) hbW)
 clear h hl hnv hbW
 go_enter Tryz.func21, Tryz.ntmps21
 go_wp2_with fail
 refine HC.out.mono ?_
 rintro e w1 ⟨σ', A, q, d, rfl, h2, h3, h4, h5⟩
 have HX := Lib.hid (And.intro h2 (And.intro h3 (And.intro h4 h5)))
 clear h2 h3 h4 h5
 go_wp2_with fail
 go_ret
 exact ⟨σ', A, q, d, rfl, HX.out.1, grown_tr HGW.out HX.out.2.1, HX.out.2.2.1, HX.out.2.2.2⟩
set_option maxHeartbeats 8000000 in
set_option maxRecDepth 100000 in
theorem node_17 (J : Jd) (w0 : World) (σ : List Value) (k m c : Nat) (nm : ByteArray) (lo hi : Int) (ks : List Int) (K : Option Addr) (w : World) (h : JS J w0 σ w) (hl : Live J k σ w) (hnv : Nv J w0 k ⟨17, nm, lo, hi, ks⟩ K m c) :
  Calls Tryz.prog 21 #[.pointer (some ⟨J.gj, 0, none⟩), .agg #[.int .i64 17, .string nm, .int .i64 lo, .int .i64 hi, .slice K m c]] w (GotNd J w0 k σ w) := by
 obtain ⟨W, hW⟩ : ∃ W, w.alloc (.cells #[.int .i64 17, .string nm, .int .i64 lo, .int .i64 hi, .slice K m c] 47) = W := ⟨_, rfl⟩
 have hbW : Below w.heap.size w W := by rw [← hW]; exact (Below.refl _ _).alloc (Nat.le_refl _) _
 have d0 : W.cell? ⟨w.heap.size, 0, none⟩ = some (.int .i64 17) := by rw [← hW]; exact box_cell 0 _ rfl
 have d1 : W.cell? ⟨w.heap.size, 1, none⟩ = some (.string nm) := by rw [← hW]; exact box_cell 1 _ rfl
 have d2 : W.cell? ⟨w.heap.size, 2, none⟩ = some (.int .i64 lo) := by rw [← hW]; exact box_cell 2 _ rfl
 have d3 : W.cell? ⟨w.heap.size, 3, none⟩ = some (.int .i64 hi) := by rw [← hW]; exact box_cell 3 _ rfl
 have d4 : W.cell? ⟨w.heap.size, 4, none⟩ = some (.slice K m c) := by rw [← hW]; exact box_cell 4 _ rfl
 have HC := Lib.hid (landFore J w0 σ k m c nm lo hi ks K W (h.later hbW) (hl.grown (grown_any hbW)) hnv)
 have HGW := Lib.hid (grown_any (o := J.bt) hbW)
 clear h hl hnv hbW
 go_enter Tryz.func21, Tryz.ntmps21
 go_wp2_with fail
 refine HC.out.mono ?_
 rintro e w1 ⟨σ', A, q, d, rfl, h2, h3, h4, h5⟩
 have HX := Lib.hid (And.intro h2 (And.intro h3 (And.intro h4 h5)))
 clear h2 h3 h4 h5
 go_wp2_with fail
 go_ret
 exact ⟨σ', A, q, d, rfl, HX.out.1, grown_tr HGW.out HX.out.2.1, HX.out.2.2.1, HX.out.2.2.2⟩
end Go.Proofs.YtdbgaccnejffpaaGreat.Sat

namespace Go.Proofs.YtdbgaccnejffpaaGreat.Sat
open Go.RowKit Go.Proofs.YtdbgaccnejffpaaGreat.Ints Go.Proofs.YtdbgaccnejffpaaGreat.Mem Go.Proofs.YtdbgaccnejffpaaGreat.Src Go.Proofs.YtdbgaccnejffpaaGreat.Paths Go.Proofs.YtdbgaccnejffpaaGreat.Late Go.Proofs.YtdbgaccnejffpaaGreat.Trace
theorem landNode (J : Jd) (w0 : World) (σ : List Value) (k m c : Nat) (nd : Tree.Nd) (K : Option Addr) (w : World) (h : JS J w0 σ w) (hl : Live J k σ w) (hnv : Nv J w0 k nd K m c) :
  Calls Tryz.prog 21 #[.pointer (some ⟨J.gj, 0, none⟩), Tree.ndV nd K m c] w (GotNd J w0 k σ w) := by
 obtain ⟨kd, nm, lo, hi, ks⟩ := nd
 have hf := node_fields h.ml hnv.hk
 unfold Tree.fieldsB at hf
 rw [Bool.and_eq_true] at hf
 have hr : 1 ≤ kd ∧ kd ≤ 22 := (Tree.kinds_range kd).1 hf.1
 obtain ⟨q1, q2⟩ := hr
 have hc : kd = 1 ∨ kd = 2 ∨ kd = 3 ∨ kd = 4 ∨ kd = 5 ∨ kd = 6 ∨ kd = 7 ∨ kd = 8 ∨ kd = 9 ∨ kd = 10 ∨ kd = 11 ∨ kd = 12 ∨ kd = 13 ∨ kd = 14 ∨ kd = 15 ∨ kd = 16 ∨ kd = 17 ∨ kd = 18 ∨ kd = 19 ∨ kd = 20 ∨ kd = 21 ∨ kd = 22 := by omega
 clear hf q1 q2
 rcases hc with rfl | rfl | rfl | rfl | rfl | rfl | rfl | rfl | rfl | rfl | rfl | rfl | rfl | rfl | rfl | rfl | rfl | rfl | rfl | rfl | rfl | rfl
 ·exact node_1 J w0 σ k m c nm lo hi ks K w h hl hnv
 ·exact node_2 J w0 σ k m c nm lo hi ks K w h hl hnv
 ·exact node_3 J w0 σ k m c nm lo hi ks K w h hl hnv
 ·exact node_4 J w0 σ k m c nm lo hi ks K w h hl hnv
 ·exact node_5 J w0 σ k m c nm lo hi ks K w h hl hnv
 ·exact node_6 J w0 σ k m c nm lo hi ks K w h hl hnv
 ·exact node_7 J w0 σ k m c nm lo hi ks K w h hl hnv
 ·exact node_8 J w0 σ k m c nm lo hi ks K w h hl hnv
 ·exact node_9 J w0 σ k m c nm lo hi ks K w h hl hnv
 ·exact node_10 J w0 σ k m c nm lo hi ks K w h hl hnv
 ·exact node_11 J w0 σ k m c nm lo hi ks K w h hl hnv
 ·exact node_12 J w0 σ k m c nm lo hi ks K w h hl hnv
 ·exact node_13 J w0 σ k m c nm lo hi ks K w h hl hnv
 ·exact node_14 J w0 σ k m c nm lo hi ks K w h hl hnv
 ·exact node_15 J w0 σ k m c nm lo hi ks K w h hl hnv
 ·exact node_16 J w0 σ k m c nm lo hi ks K w h hl hnv
 ·exact node_17 J w0 σ k m c nm lo hi ks K w h hl hnv
 ·exact node_18 J w0 σ k m c nm lo hi ks K w h hl hnv
 ·exact node_19 J w0 σ k m c nm lo hi ks K w h hl hnv
 ·exact node_20 J w0 σ k m c nm lo hi ks K w h hl hnv
 ·exact node_21 J w0 σ k m c nm lo hi ks K w h hl hnv
 ·exact node_22 J w0 σ k m c nm lo hi ks K w h hl hnv
theorem live_next {J : Jd} {w0 w w' : World} {σ : List Value} {k : Nat} {e : Ending} (hl : Live J k σ w) (hk : k < J.l.length) (hg : GotNd J w0 k σ w e w') :
  ∃ (σ' : List Value) (A : Option Addr) (q c : Nat), e = .returned (.slice A q c) ∧ JS J w0 (σ'.set k (.slice A q c)) (w'.setCell ⟨J.bt, k, none⟩ (.slice A q c)) ∧ Live J (k + 1) (σ'.set k (.slice A q c)) (w'.setCell ⟨J.bt, k, none⟩ (.slice A q c)) ∧ w'.cell? ⟨J.gj, 3, none⟩ = some (.slice (some ⟨J.bt, 0, none⟩) J.l.length J.l.length) ∧ w'.frozen? ⟨J.bt, k, none⟩ = false ∧ w.grownBy w' (some J.bt) ∧ (∃ u, w'.cell? ⟨J.bt, k, none⟩ = some u) := by
 obtain ⟨σ', A, q, c, rfl, h2, h3, h4, h5⟩ := hg
 have hlen : k < σ'.length := by rw [h2.len]; exact hk
 refine ⟨σ', A, q, c, rfl, h2.put k _, fun i hi hd hf => ?_, h2.blk.cell 3 rfl, ?_, h3, ⟨_, h2.at (List.getElem?_eq_getElem hlen)⟩⟩
 ·have hgc := grown_cell w' ⟨J.bt, k, none⟩ (.slice A q c)
  by_cases e : i = k
  ·subst e
   refine ⟨_, by rw [List.getElem?_set, if_pos rfl, if_pos hlen], (h5 hf).grown hgc⟩
  ·have hd2 : ¬ dead J.l k i := fun x => hd (dead_succ.2 (.inl x))
   have ht2 : ¬ took J.l k i := fun x => hd (dead_succ.2 (.inr x))
   obtain ⟨v, e1, ht⟩ := hl i (by omega) hd2 hf
   exact ⟨v, by rw [set_off _ (fun x => e x.symm), h4 i ht2]; exact e1, (ht.grown h3).grown hgc⟩
 ·exact own_fz h2.row k
theorem form_root {l : List Tree.Nd} (h : Tree.formL l = true) : Tree.mayL l = true ∧ Tree.formKind (kindN l (l.length - 1)) = true := by
 unfold Tree.formL at h
 rw [Bool.and_eq_true] at h
 refine ⟨h.1, ?_⟩
 have h2 := h.2
 unfold Tree.lastKind at h2
 unfold kindN
 rwa [List.getLast?_eq_getElem?] at h2
noncomputable def tb (t : Tr) (l : List Tree.Nd) (p : Nat) : Bool := @decide (sem (tmOf t) (foOf l) p p) (Classical.propDecidable _)
theorem tb_iff (t : Tr) (l : List Tree.Nd) (p : Nat) : tb t l p = true ↔ sem (tmOf t) (foOf l) p p := @decide_eq_true_iff _ (Classical.propDecidable _)
set_option maxHeartbeats 8000000 in
set_option maxRecDepth 100000 in
theorem landAll (NA : Option Addr) (nn nc : Nat) (EA : Option Addr) (ne ec : Nat) (t : Tr) (A : Option Addr) (n c : Nat) (l : List Tree.Nd) (w : World) (hT : TrOk Any w NA nn nc EA ne ec t) (hN : Tree.Nodes Tree.Any w A l) (hl : l.length = n) (hnc : n ≤ c ∧ c ≤ maxLen) (hn : n ≤ 1000) (he : ne ≤ 64) :
  Calls Tryz.prog 9 #[.agg #[.slice NA nn nc, .slice EA ne ec], .slice A n c] w fun e w' => Below w.heap.size w w' ∧
   if (mayT t && Tree.formL l) = true then ∃ b, e = .returned (.slice (some ⟨b, 0, none⟩) ne ne) ∧ OB w' w.heap.size b ne (tb t l) else e = .returned (.slice none 0 0) := by
 obtain ⟨i1, hi1, hy0, hy1, hy2⟩ := info_parts infoBs
 have q63 : maxLen = 9223372036854775807 := rfl
 obtain ⟨W, hW⟩ : ∃ W, w.alloc (.cells #[.slice NA nn nc, .slice EA ne ec] 25) = W := ⟨_, rfl⟩
 have hbW : Below w.heap.size w W := by rw [← hW]; exact (Below.refl _ _).alloc (Nat.le_refl _) _
 have d0 : W.cell? ⟨w.heap.size, 0, none⟩ = some (.slice NA nn nc) := by rw [← hW]; exact box_cell 0 _ rfl
 have d1 : W.cell? ⟨w.heap.size, 1, none⟩ = some (.slice EA ne ec) := by rw [← hW]; exact box_cell 1 _ rfl
 have HB := Lib.hid hbW
 have HM := Lib.hid (landMay NA nn nc EA ne ec t W (hT.below hbW))
 have HF := Lib.hid (fun V (hb : Below W.heap.size W V) => Tree.landForm A n c l V hl (by omega) (hN.below (hbW.trans (hb.mono hbW.size))))
 have HTN := Lib.hid (And.intro hT (And.intro hN (And.intro hl hnc)))
 have b1 : i1.bytes * n ≤ 281474976710656 := by rw [hy2]; omega
 have b3 : n ≤ maxLen := by omega
 have hni : ((n : Nat) : Int) ≤ 1000 := by omega
 have hni2 : ((n : Nat) : Int) ≤ 9223372036854775807 := by omega
 have HSW := Lib.hid (World.block_lt_of_cell? _ _ d0)
 clear hT hN hl hnc hbW
 cases hm : mayT t
 ·rw [hm] at HM
  clear hm HF
  go_enter Tryz.func9, Tryz.ntmps9
  go_wp2_with fail
  refine HM.out.mono ?_
  rintro e w1 ⟨rfl, hb1⟩
  have HB1 := Lib.hid hb1
  clear hb1
  go_wp2_with fail
  go_ret
  exact ⟨HB.out.trans (HB1.out.mono HB.out.size), rfl⟩
 ·rw [hm] at HM
  cases hf : Tree.formL l
  ·rw [hf] at HF
   have HMF := Lib.hid (And.intro hm hf)
   clear hm hf
   go_enter Tryz.func9, Tryz.ntmps9
   go_wp2_with fail
   refine HM.out.mono ?_
   rintro e w1 ⟨rfl, hb1⟩
   have HC := Lib.hid (HF.out w1 hb1)
   have HB1 := Lib.hid hb1
   clear hb1
   go_wp2_with fail
   refine HC.out.mono ?_
   rintro e w2 ⟨rfl, hb2⟩
   have HB2 := Lib.hid hb2
   clear hb2
   go_wp2_with fail
   go_ret
   have h1 := HB1.out.trans (HB2.out.mono HB1.out.size)
   exact ⟨HB.out.trans (h1.mono HB.out.size), rfl⟩
  ·rw [hf] at HF
   have HMF := Lib.hid (And.intro hm hf)
   clear hm hf
   go_enter Tryz.func9, Tryz.ntmps9
   go_wp2_with fail
   refine HM.out.mono ?_
   rintro e w1 ⟨rfl, hb1⟩
   have HC := Lib.hid (HF.out w1 hb1)
   have HB1 := Lib.hid hb1
   clear hb1
   go_wp2_with fail
   refine HC.out.mono ?_
   rintro e w2 ⟨rfl, hb2⟩
   have h1 := HB1.out.trans (hb2.mono HB1.out.size)
   have e0 := below_cell h1 d0
   have e1 := below_cell h1 d1
   have HB2 := Lib.hid h1
   clear hb2 h1 d0 d1
   go_wp2_with fail
   refine wp_region_held_drew (S := fun V => V.cell? ⟨w.heap.size, 0, none⟩ = some (.slice NA nn nc) ∧ V.cell? ⟨w.heap.size, 1, none⟩ = some (.slice EA ne ec)) (by kernel_rfl) ⟨e0, e1⟩ (fun hHeld => ?_)
   refine tkOp 0 hHeld ?_
   refine tkOp 1 hHeld ?_
   refine tkOp 2 hHeld ?_
   refine tkOp 3 hHeld ?_
   refine tkOp 4 hHeld ?_
   refine tkOp 5 hHeld ?_
   refine tkOp 6 hHeld ?_
   refine tkCall 7 (fun Kt hKt => ?_)
   go_simp
   (obtain ⟨w3, hrun, hmade, hgr3⟩ := run_make_full (P := Tryz.prog) w2.drew w.heap.size 50 32 i1 (.slice none 0 0) 1 Tryz.underlying50 hi1 hy0 hy1 .i64 .i64 n b1 b3 (Nat.le_trans HB.out.size HB2.out.size); rw [hrun]; rw [made_slices] at hmade; go_simp)
   refine hKt.out _ _ ?_ (fun hT => ?_)
   ·(exact ⟨hgr3.cell hHeld.1 (fun e => nomatch e), hgr3.cell hHeld.2 (fun e => nomatch e)⟩)
   clear hKt Kt hHeld
   have hHeld := hT
   clear hT
   try simp only [Act.put, tkA, tkB, tkC]
   refine tkOp 8 hHeld ?_
   refine tkCall 9 (fun Kt hKt => ?_)
   go_simp
   refine hKt.out _ _ ?_ (fun hT => ?_)
   ·(exact ⟨below_cell ((Below.refl _ _).alloc (Nat.le_refl _) _) hHeld.1, below_cell ((Below.refl _ _).alloc (Nat.le_refl _) _) hHeld.2⟩)
   clear hKt Kt hHeld
   have hHeld := hT
   clear hT
   try simp only [Act.put, tkA, tkB, tkC]
   refine tkOp 10 hHeld ?_
   refine wpAnyH_done (by kernel_rfl) ?_ _
   clear hHeld
   obtain ⟨hT, hN, hl, hnc⟩ := HTN.out
   have hml : Tree.mayL l = true ∧ Tree.formKind (kindN l (l.length - 1)) = true := form_root HMF.out.2
   obtain ⟨bt, hbt⟩ : ∃ bt, w2.heap.size = bt := ⟨_, rfl⟩
   obtain ⟨g, hg⟩ : ∃ g, w3.heap.size = g := ⟨_, rfl⟩
   have hbt3 : bt < g := by rw [← hg, ← hbt]; exact (World.ownsRow.lt hmade w2.drew.heap.size rfl).2
   have hwb : w.heap.size ≤ bt := by rw [← hbt]; exact Nat.le_trans HB.out.size HB2.out.size
   have hb3 : Below w.heap.size w w3 := by
    have h1 : Below w2.heap.size w2 w3 := ⟨hgr3.os, hgr3.tape, hgr3.output, hgr3.size, fun k hk => hgr3.block k hk (by simp)⟩
    have h2 := HB.out.trans (HB2.out.mono HB.out.size)
    exact h2.trans (h1.mono h2.size)
   obtain ⟨W4, hW4⟩ : ∃ W4, w3.alloc (.cells #[.slice NA nn nc, .slice EA ne ec, .slice A n c, .slice (some ⟨w2.heap.size, 0, none⟩) n n] 54) = W4 := ⟨_, rfl⟩
   have HJS := Lib.hid (show JS ⟨g, ne, nn, nc, ec, c, bt, NA, EA, A, t, l⟩ w (List.replicate n (.slice none 0 0)) W4 from by
    have h4 : Below w3.heap.size w3 W4 := by rw [← hW4]; exact (Below.refl _ _).alloc (Nat.le_refl _) _
    refine ⟨hT, hN, ⟨by rw [hl]; exact hnc.1, hnc.2⟩, HMF.out.1, hml.1, he, by rw [hl]; exact hn, hb3.trans (h4.mono hb3.size), ?_, ?_, ?_, ?_⟩
    ·show Blk W4 g [.slice NA nn nc, .slice EA ne ec, .slice A l.length c, .slice (some ⟨bt, 0, none⟩) l.length l.length]
     rw [hl, ← hg, ← hbt, ← hW4]
     exact Blk.new w3 _ _ _ rfl
    ·show W4.ownsRow w.heap.size 32 1 (.slice (some ⟨bt, 0, none⟩) l.length l.length) l.length _
     rw [hl, ← hbt]
     exact below_row hmade h4
    ·show w.heap.size ≤ g
     omega
    ·show g ≠ bt
     omega)
   rw [hW4, hg, hbt]
   have HX := Lib.hid (And.intro hl (And.intro hml.2 (And.intro hbt3 hwb)))
   have HGN := Lib.hid hg
   clear hT hN hnc hml hb3 hW4 hmade hgr3 hrun hg hbt hbt3 hwb
   go_wp2_with fail
   go_loopw [6, 7, 28] (fun _ _ v wr => ∃ (k : Nat) (σ : List Value), v = .int .i64 ((k : Nat) : Int) ∧ k ≤ n ∧ JS ⟨g, ne, nn, nc, ec, c, bt, NA, EA, A, t, l⟩ w σ wr ∧ Live ⟨g, ne, nn, nc, ec, c, bt, NA, EA, A, t, l⟩ k σ wr) (fun _ _ v _ => n - (intOf v).toNat)
   case atStart => exact ⟨0, _, rfl, Nat.zero_le _, HJS.out, fun i hi => absurd hi (Nat.not_lt_zero _)⟩
   case round =>
    obtain ⟨k, σ, rfl, hkn, hJS, hLv⟩ := hrel
    have HJ := Lib.hid hJS
    have HLv := Lib.hid hLv
    by_cases hlt : k < n
    ·obtain ⟨b, off, nd, K, m, cK, hA, hnv, hcm, hns, x0, x1, x2, x3, x4⟩ := hJS.node (show k < l.length by rw [hl]; exact hlt)
     have hA : A = some ⟨b, off, none⟩ := hA
     subst hA
     have HNV := Lib.hid hnv
     have y0 := below_cell hJS.low x0
     have y1 := below_cell hJS.low x1
     have y2 := below_cell hJS.low x2
     have y3 := below_cell hJS.low x3
     have y4 := below_cell hJS.low x4
     have c3 : wr.cell? ⟨g, 3, none⟩ = some (.slice (some ⟨bt, 0, none⟩) n n) := by rw [← hl]; exact hJS.blk.cell 3 rfl
     have hki : ((k : Nat) : Int) < ((n : Nat) : Int) := by omega
     clear hJS hLv hnv x0 x1 x2 x3 x4 hcm hns
     go_wp2_with fail
     obtain ⟨W6, hW6⟩ : ∃ W6, wr.alloc (.cells #[.int .i64 nd.kind, .string nd.name, .int .i64 nd.lo, .int .i64 nd.hi, .slice K m cK] 47) = W6 := ⟨_, rfl⟩
     have hb6 : Below wr.heap.size wr W6 := by rw [← hW6]; exact (Below.refl _ _).alloc (Nat.le_refl _) _
     have z0 : W6.cell? ⟨wr.heap.size, 0, none⟩ = some (.int .i64 nd.kind) := by rw [← hW6]; exact box_cell 0 _ rfl
     have z1 : W6.cell? ⟨wr.heap.size, 1, none⟩ = some (.string nd.name) := by rw [← hW6]; exact box_cell 1 _ rfl
     have z2 : W6.cell? ⟨wr.heap.size, 2, none⟩ = some (.int .i64 nd.lo) := by rw [← hW6]; exact box_cell 2 _ rfl
     have z3 : W6.cell? ⟨wr.heap.size, 3, none⟩ = some (.int .i64 nd.hi) := by rw [← hW6]; exact box_cell 3 _ rfl
     have z4 : W6.cell? ⟨wr.heap.size, 4, none⟩ = some (.slice K m cK) := by rw [← hW6]; exact box_cell 4 _ rfl
     have c6 := below_cell hb6 c3
     have hJ6 := (HJ.out.later hb6).later (Below.refl _ _).drew
     have hL6 := (HLv.out.grown (grown_any hb6)).grown (grown_any (Below.refl _ _).drew)
     have HN6 := Lib.hid (landNode _ w σ k m cK nd K W6.drew hJ6 hL6 HNV.out)
     have HL6 := Lib.hid hL6
     have HNE := Lib.hid (show wr.heap.size ≠ bt from by have := HJ.out.bt0.2; have h2 : bt < wr.heap.size := this; omega)
     have HKL := Lib.hid (show k < l.length from by rw [HX.out.1]; exact hlt)
     rw [hW6]
     clear y0 y1 y2 y3 y4 c3 hb6 hJ6 hL6
     refine Late.drew [9] (S := fun V => V.cell? ⟨g, 3, none⟩ = some (.slice (some ⟨bt, 0, none⟩) n n) ∧ V.cell? ⟨wr.heap.size, 0, none⟩ = some (.int .i64 nd.kind) ∧ V.cell? ⟨wr.heap.size, 1, none⟩ = some (.string nd.name) ∧ V.cell? ⟨wr.heap.size, 2, none⟩ = some (.int .i64 nd.lo) ∧ V.cell? ⟨wr.heap.size, 3, none⟩ = some (.int .i64 nd.hi) ∧ V.cell? ⟨wr.heap.size, 4, none⟩ = some (.slice K m cK)) (by kernel_rfl) ⟨c6, z0, z1, z2, z3, z4⟩ (fun hHeld => ?_)
     refine ltOp 0 hHeld ?_
     refine ltOp 1 hHeld ?_
     refine ltOp 2 hHeld ?_
     refine ltOp 3 hHeld ?_
     refine ltOp 4 hHeld ?_
     refine ltOp 5 hHeld ?_
     refine ltOp 6 hHeld ?_
     refine ltCall 7 (fun Kt hKt => ?_)
     go_simp
     (go_at_call 21; refine HN6.out.mono ?_; intro e w5 hG; obtain ⟨σ', A5, q5, c5, rfl, p1, p2, p3, p4, p5, u9, p6⟩ := live_next HL6.out HKL.out hG; have c9 : w5.cell? ⟨bt, k, none⟩ = some u9 := p6; have f9 : w5.frozen? ⟨bt, k, none⟩ = false := p4)
     refine hKt.out _ _ ?_ (fun hT => ?_)
     ·(exact ⟨by rw [← HX.out.1]; exact p3, box_keep hHeld.2 p5 HNE.out⟩)
     clear hKt Kt hHeld
     have hHeld := hT
     clear hT
     try simp only [Act.put, tkA, tkB, tkC]
     refine ltOp 8 hHeld ?_
     refine ltLast 9 (fun Kt hKt => ?_)
     go_simp
     refine hKt.out _ _ trivial (fun hT => ?_)
     clear hKt Kt hHeld
     have hHeld := hT
     clear hT
     try simp only [Act.put, tkA, tkB, tkC]
     refine wpAnyH_done (by kernel_rfl) ?_ _
     have HP := Lib.hid (And.intro p1 p2)
     clear hHeld p1 p2 p3 p4 p5 p6 c9 hW6 z0 z1 z2 z3 z4 c6 f9
     go_wp2_with fail
     go_roundw
     case rel => exact ⟨k + 1, _, by simp, by omega, HP.out.1, HP.out.2⟩
     case measure => (show n - (k + 1) < n - k; omega)
    ·obtain rfl : k = n := by omega
     have hnk : 1 ≤ k := by
      have h1 := HX.out.1
      have h2 := HX.out.2.1
      rcases Nat.eq_zero_or_pos k with e | e
      ·exfalso
       have h9 : l = [] := by
        apply List.eq_nil_of_length_eq_zero
        omega
       rw [h9] at h2
       exact absurd h2 (by decide)
      ·exact e
     obtain ⟨v, hv, bv, rfl, v1, v2, v3, v4⟩ := hLv (k - 1) (by omega) (by rw [← HX.out.1]; exact root_live hJS.ml) (.inl (by rw [← HX.out.1]; exact HX.out.2.1))
     have hki : ((k : Nat) : Int) - 1 = ((k - 1 : Nat) : Int) := by omega
     have HTK := Lib.hid (landTake _ w σ (k - 1) _ _ _ wr hJS (show k - 1 < l.length by have := HX.out.1; omega) hv)
     have HV := Lib.hid (And.intro v1 (And.intro v2 v4))
     have HKL := Lib.hid hnk
     clear hJS hLv hv v1 v2 v3 v4 hnk
     go_wp2_with fail
     refine HTK.out.mono ?_
     rintro e w5 ⟨rfl, t1, t2⟩
     have HE := Lib.hid (And.intro t1 t2)
     clear t1 t2
     go_wp2_with fail
     go_ret
     refine ⟨HE.out.1.low, ?_⟩
     refine ⟨bv, rfl, ?_⟩
     have h1 : bv < wr.heap.size := HV.out.2.1
     have h2 : bv ≠ bt := HV.out.1
     have h3 : OB wr g bv ne (tvB ⟨g, ne, nn, nc, ec, c, bt, NA, EA, A, t, l⟩ (k - 1)) := HV.out.2.2
     have h4 := (h3.same (HE.out.2.block bv h1 (fun e => h2 (by injection e)))).low (show w.heap.size ≤ g by have := HX.out.2.2; omega)
     refine h4.congr fun p hp => ?_
     unfold tb foOf
     rw [HX.out.1]
     rfl
end Go.Proofs.YtdbgaccnejffpaaGreat.Sat

namespace Go.Proofs.YtdbgaccnejffpaaGreat.Sat
open Go.RowKit Go.Proofs.YtdbgaccnejffpaaGreat.Ints Go.Proofs.YtdbgaccnejffpaaGreat.Mem Go.Proofs.YtdbgaccnejffpaaGreat.Src Go.Proofs.YtdbgaccnejffpaaGreat.Paths Go.Proofs.YtdbgaccnejffpaaGreat.Late Go.Proofs.YtdbgaccnejffpaaGreat.Trace
theorem refTruth (NA : Option Addr) (nn nc : Nat) (EA : Option Addr) (n ec : Nat) (t : Tr) (A : Option Addr) (nl cl : Nat) (l : List Tree.Nd) (B at_ : Nat) (w : World) (h : TrOk Any w NA nn nc EA n ec t) (hmt : mayT t = true) (hN : Tree.Nodes Tree.Any w A l) (hl : l.length = nl) (hml : Tree.mayL l = true) (hcl : nl ≤ cl) (hl1 : nl ≤ 1000) (hat : at_ < nl) (hf : Tree.formKind (kindN l at_) = true) (hT : TvR w B at_ n t l) (hn : n ≤ 64) :
  Calls Tryz.prog 30 #[.agg #[.slice NA nn nc, .slice EA n ec], .slice A nl cl, .int .i64 ((at_ : Nat) : Int), .slice (some ⟨B, 0, none⟩) nl nl, .int .i64 ((n : Nat) : Int)] w (GotB w n (tvN t l at_)) := by
 by_cases h16 : kindN l at_ = 16
 ·exact truth_back NA nn nc EA n ec t A nl cl l B at_ w h hmt hN hl hml hcl hl1 hat h16 hT hn
 ·by_cases h17 : kindN l at_ = 17
  ·exact truth_fore NA nn nc EA n ec t A nl cl l B at_ w h hmt hN hl hml hcl hl1 hat h17 hT hn
  ·exact truth_plain NA nn nc EA n ec t A nl cl l B at_ w h hmt hN hl hml hl1 hat hf h16 h17 hT hn
structure TvO (w : World) (lo B nl k n : Nat) (t : Tr) (l : List Tree.Nd) (σ : List Value) : Prop where
 row : w.ownsRow lo 32 1 (.slice (some ⟨B, 0, none⟩) nl nl) nl σ
 told : ∀ i, i < k → Tree.formKind (kindN l i) = true → ∃ b, σ[i]? = some (.slice (some ⟨b, 0, none⟩) n n) ∧ b ≠ B ∧ OB w lo b n (tvN t l i)
section
variable {w w' : World} {lo B nl k n : Nat} {t : Tr} {l : List Tree.Nd} {σ : List Value}
theorem TvO.below (h : TvO w lo B nl k n t l σ) (hb : Below w.heap.size w w') : TvO w' lo B nl k n t l σ :=
 ⟨below_row h.row hb, fun i hi hf => by
  obtain ⟨b, h1, h2, h3⟩ := h.told i hi hf
  exact ⟨b, h1, h2, h3.below hb⟩⟩
theorem TvO.at (h : TvO w lo B nl k n t l σ) {j : Nat} {v : Value} (hv : σ[j]? = some v) : w.cell? ⟨B, j, none⟩ = some v := by
 have := World.ownsRow.cells h.row (g := B) rfl j v hv
 rwa [Addr.add_lit, Nat.zero_add] at this
theorem TvO.reads (h : TvO w lo B nl k n t l σ) : TvR w B k n t l := fun i hi hf => by
 obtain ⟨b, h1, h2, h3⟩ := h.told i hi hf
 exact ⟨b, h.at h1, h3.rb⟩
theorem TvO.skip (h : TvO w lo B nl k n t l σ) (hf : Tree.formKind (kindN l k) = false) : TvO w lo B nl (k + 1) n t l σ :=
 ⟨h.row, fun i hi hfi => by
  by_cases e : i = k
  ·subst e; rw [hf] at hfi; cases hfi
  ·exact h.told i (by omega) hfi⟩
theorem TvO.put (h : TvO w lo B nl k n t l σ) (hk : k < nl) {b : Nat} (hb : OB w lo b n (tvN t l k)) (hne : b ≠ B) : TvO (w.setCell ⟨B, k, none⟩ (.slice (some ⟨b, 0, none⟩) n n)) lo B nl (k + 1) n t l (σ.set k (.slice (some ⟨b, 0, none⟩) n n)) := by
 have hlen : σ.length = nl := by have := h.row.1; rwa [Nat.mul_one] at this
 have hs := (grown_cell w ⟨B, k, none⟩ (.slice (some ⟨b, 0, none⟩) n n))
 refine ⟨own_put h.row _, fun i hi hf => ?_⟩
 by_cases e : i = k
 ·subst e
  exact ⟨b, by rw [List.getElem?_set, if_pos rfl, if_pos (by omega)], hne, hb.same (hs.block b hb.lt.2 (fun e => hne (by injection e)))⟩
 ·obtain ⟨b', h1, h2, h3⟩ := h.told i (by omega) hf
  exact ⟨b', by rw [List.getElem?_set, if_neg (fun x => e x.symm)]; exact h1, h2, h3.same (hs.block b' h3.lt.2 (fun e => h2 (by injection e)))⟩
end
def GotTs (w : World) (nl n : Nat) (t : Tr) (l : List Tree.Nd) (e : Ending) (w' : World) : Prop := ∃ B σ, e = .returned (.slice (some ⟨B, 0, none⟩) nl nl) ∧ TvO w' w.heap.size B nl nl n t l σ ∧ Below w.heap.size w w'
set_option maxHeartbeats 16000000 in
set_option maxRecDepth 100000 in
theorem refTruths (NA : Option Addr) (nn nc : Nat) (EA : Option Addr) (n ec : Nat) (t : Tr) (A : Option Addr) (nl cl : Nat) (l : List Tree.Nd) (w : World) (h : TrOk Any w NA nn nc EA n ec t) (hmt : mayT t = true) (hN : Tree.Nodes Tree.Any w A l) (hl : l.length = nl) (hml : Tree.mayL l = true) (hcl : nl ≤ cl) (hl1 : nl ≤ 1000) (hn : n ≤ 64) :
  Calls Tryz.prog 18 #[.agg #[.slice NA nn nc, .slice EA n ec], .slice A nl cl] w (GotTs w nl n t l) := by
 have q63 : maxLen = 9223372036854775807 := rfl
 obtain ⟨i1, hi1, hy0, hy1, hy2⟩ := info_parts infoBs
 have b2 : i1.bytes * nl ≤ 281474976710656 := by rw [hy2]; omega
 have b3 : nl ≤ maxLen := by omega
 obtain ⟨W, hW⟩ : ∃ W, w.alloc (.cells #[.slice NA nn nc, .slice EA n ec] 25) = W := ⟨_, rfl⟩
 have hbW : Below w.heap.size w W := by rw [← hW]; exact (Below.refl _ _).alloc (Nat.le_refl _) _
 have d0 : W.cell? ⟨w.heap.size, 0, none⟩ = some (.slice NA nn nc) := by rw [← hW]; exact box_cell 0 _ rfl
 have d1 : W.cell? ⟨w.heap.size, 1, none⟩ = some (.slice EA n ec) := by rw [← hW]; exact box_cell 1 _ rfl
 have HB := Lib.hid hbW
 have HDE := Lib.hid (And.intro d0 d1)
 have HC := Lib.hid (fun V (hb : Below W.heap.size W V) B at_ (hat : at_ < nl) (hf : Tree.formKind (kindN l at_) = true) (hT : TvR V B at_ n t l) => refTruth NA nn nc EA n ec t A nl cl l B at_ V ((h.below hbW).below hb) hmt ((hN.below hbW).below hb) hl hml hcl hl1 hat hf hT hn)
 have HND := Lib.hid (fun V (hb : Below W.heap.size W V) z (hz : z < nl) => node_cells ((hN.below hbW).below hb) hml (show z < l.length by omega))
 have hnli : ((nl : Nat) : Int) ≤ 1000 := by omega
 clear h hmt hN hl hml hbW
 go_enter Tryz.func18, Tryz.ntmps18
 go_wp2_with (at_make; refine wpList_make_full _ rfl (.tmp 12) (.tmp 12) 50 rfl w.heap.size 32 i1 (.slice none 0 0) 1 Tryz.underlying50 hi1 hy0 hy1 .i64 .i64 _ _ nl rfl rfl rfl rfl b2 b3 HB.out.size ?_; intro w3 hmade hgr3; rw [made_slices] at hmade)
 have hg3 : Below W.heap.size W w3 := ⟨hgr3.os, hgr3.tape, hgr3.output, hgr3.size, fun k hk => hgr3.block k hk (by simp)⟩
 obtain ⟨B, hB⟩ : ∃ B, W.heap.size = B := ⟨_, rfl⟩
 have HO := Lib.hid (show TvO w3 w.heap.size B nl 0 n t l (List.replicate nl (.slice none 0 0)) from ⟨by rw [← hB]; exact hmade, fun i hi => absurd hi (Nat.not_lt_zero _)⟩)
 have HG := Lib.hid hg3
 have HBe := Lib.hid hB
 have HBw := Lib.hid (show w.heap.size ≤ B from by rw [← hB]; exact HB.out.size)
 rw [hB]
 clear hmade hgr3 hg3 hB d0 d1
 go_loopw [7, 16] (fun _ v wr => ∃ (k : Nat) (σ : List Value), v = .int .i64 ((k : Nat) : Int) ∧ k ≤ nl ∧ TvO wr w.heap.size B nl k n t l σ ∧ Below W.heap.size W wr) (fun _ v _ => nl - (intOf v).toNat)
 case atStart => exact ⟨0, _, rfl, Nat.zero_le _, HO.out, HG.out⟩
 case round =>
  obtain ⟨k, σ, rfl, hkn, hO, hB⟩ := hrel
  have HOk := Lib.hid hO
  have HBk := Lib.hid hB
  by_cases hlt : k < nl
  ·obtain ⟨b, off, nd, K, m, cK, hA, hnc⟩ := HND.out wr hB k hlt
   subst hA
   have x0 := hnc.x0
   have hkd := kind_of hnc.hk
   rw [← hkd] at x0
   have hki : ((k : Nat) : Int) < ((nl : Nat) : Int) := by omega
   obtain ⟨kd, hkd2⟩ : ∃ q, kindN l k = q := ⟨_, rfl⟩
   rw [hkd2] at x0
   have HKD := Lib.hid hkd2
   have f0 := below_cell hB HDE.out.1
   have f1 := below_cell hB HDE.out.2
   clear hO hB hnc hkd hkd2
   go_wp2_with fail
   refine (Tree.refFormKind kd wr).mono ?_
   rintro e w4 ⟨rfl, hw4⟩
   rw [hw4]
   clear hw4
   cases hfk : Tree.formKind kd
   ·have HF := Lib.hid hfk
    clear hfk f0 f1
    go_wp2_with fail
    go_roundw
    case rel => exact ⟨k + 1, σ, by simp, by omega, HOk.out.skip (by rw [HKD.out]; exact HF.out), HBk.out⟩
    case measure => (show nl - (k + 1) < nl - k; omega)
   ·have HF := Lib.hid hfk
    clear hfk
    go_wp2_with fail
    refine (HC.out wr HBk.out B k hlt (by rw [HKD.out]; exact HF.out) HOk.out.reads).mono ?_
    rintro e w5 ⟨b5, rfl, ho5, hb5⟩
    have hO5 := HOk.out.below hb5
    have hne : b5 ≠ B := by
     have h1 := ho5.lt.1
     have h2 := (World.ownsRow.lt HOk.out.row B rfl).2
     omega
    have hsz : w.heap.size ≤ wr.heap.size := by have := HB.out.size; have := HBk.out.size; omega
    obtain ⟨u5, hu5⟩ : ∃ u, σ[k]? = some u := ⟨_, List.getElem?_eq_getElem (by have := hO5.row.1; omega)⟩
    have cB := hO5.at hu5
    have fB := own_fz hO5.row k
    have HON := Lib.hid (hO5.put hlt (ho5.low hsz) hne)
    have HBN := Lib.hid ((HBk.out.trans (hb5.mono HBk.out.size)).setCell (p := ⟨B, k, none⟩) (show W.heap.size ≤ B by rw [HBe.out]; exact Nat.le_refl _) (.slice (some ⟨b5, 0, none⟩) n n))
    clear ho5 hb5 hO5 hne hsz hu5 f0 f1
    go_wp2_with fail
    go_roundw
    case rel => exact ⟨k + 1, _, by simp, by omega, HON.out, HBN.out⟩
    case measure => (show nl - (k + 1) < nl - k; omega)
  ·obtain rfl : k = nl := by omega
   clear hO hB
   go_wp2_with fail
   go_ret
   exact ⟨B, σ, rfl, HOk.out, HB.out.trans (HBk.out.mono HB.out.size)⟩
theorem tb_root {t : Tr} {l : List Tree.Nd} (p : Nat) : tvN t l (l.length - 1) p = tb t l p := by
 rw [Bool.eq_iff_iff, tvN_iff, tb_iff]
 exact Iff.rfl
set_option maxHeartbeats 8000000 in
set_option maxRecDepth 100000 in
theorem refAll (NA : Option Addr) (nn nc : Nat) (EA : Option Addr) (n ec : Nat) (t : Tr) (A : Option Addr) (nl cl : Nat) (l : List Tree.Nd) (w : World) (h : TrOk Any w NA nn nc EA n ec t) (hN : Tree.Nodes Tree.Any w A l) (hl : l.length = nl) (hcl : nl ≤ cl ∧ cl ≤ maxLen) (hl1 : nl ≤ 1000) (hn : n ≤ 64) :
  Calls Tryz.prog 7 #[.agg #[.slice NA nn nc, .slice EA n ec], .slice A nl cl] w fun e w' => Below w.heap.size w w' ∧
   if (mayT t && Tree.formL l) = true then ∃ b, e = .returned (.slice (some ⟨b, 0, none⟩) n n) ∧ OB w' w.heap.size b n (tb t l) else e = .returned (.slice none 0 0) := by
 obtain ⟨W, hW⟩ : ∃ W, w.alloc (.cells #[.slice NA nn nc, .slice EA n ec] 25) = W := ⟨_, rfl⟩
 have hbW : Below w.heap.size w W := by rw [← hW]; exact (Below.refl _ _).alloc (Nat.le_refl _) _
 have d0 : W.cell? ⟨w.heap.size, 0, none⟩ = some (.slice NA nn nc) := by rw [← hW]; exact box_cell 0 _ rfl
 have d1 : W.cell? ⟨w.heap.size, 1, none⟩ = some (.slice EA n ec) := by rw [← hW]; exact box_cell 1 _ rfl
 have HB := Lib.hid hbW
 have HM := Lib.hid (Trace.refMay NA nn nc EA n ec t W (h.below hbW))
 have HF := Lib.hid (fun V (hb : Below W.heap.size W V) => Tree.refForm A nl cl l V hl (by omega) ((hN.below hbW).below hb))
 have HTS := Lib.hid (fun (hmt : mayT t = true) (hml : Tree.mayL l = true) V (hb : Below W.heap.size W V) => refTruths NA nn nc EA n ec t A nl cl l V ((h.below hbW).below hb) hmt ((hN.below hbW).below hb) hl hml hcl.1 hl1 hn)
 have HL := Lib.hid hl
 have hnli : ((nl : Nat) : Int) ≤ 1000 := by omega
 clear h hN hl hcl hbW
 cases hm : mayT t
 ·rw [hm] at HM
  clear hm HF HTS
  go_enter Tryz.func7, Tryz.ntmps7
  go_wp2_with fail
  refine HM.out.mono ?_
  rintro e w1 ⟨rfl, hb1⟩
  have HB1 := Lib.hid hb1
  clear hb1
  go_wp2_with fail
  go_ret
  exact ⟨HB.out.trans (HB1.out.mono HB.out.size), rfl⟩
 ·rw [hm] at HM
  cases hf : Tree.formL l
  ·rw [hf] at HF
   clear hm hf HTS
   go_enter Tryz.func7, Tryz.ntmps7
   go_wp2_with fail
   refine HM.out.mono ?_
   rintro e w1 ⟨rfl, hb1⟩
   have HB1 := Lib.hid hb1
   have HC := Lib.hid (HF.out w1 hb1)
   clear hb1
   go_wp2_with fail
   refine HC.out.mono ?_
   rintro e w2 ⟨rfl, hb2⟩
   have HB2 := Lib.hid (HB1.out.trans (hb2.mono HB1.out.size))
   clear hb2
   go_wp2_with fail
   go_ret
   exact ⟨HB.out.trans (HB2.out.mono HB.out.size), rfl⟩
  ·obtain ⟨hml, hfk⟩ := form_root hf
   have hne := Tree.may_ne hml
   have HTS := Lib.hid (HTS.out hm hml)
   have HFK := Lib.hid hfk
   rw [hf] at HF
   have hn1 : 1 ≤ nl := by have := HL.out; omega
   have hnw : ((nl : Nat) : Int) - 1 = ((nl - 1 : Nat) : Int) := by omega
   have hnl2 : ((nl - 1 : Nat) : Int) < ((nl : Nat) : Int) := by omega
   clear hm hf hml hfk hne
   go_enter Tryz.func7, Tryz.ntmps7
   go_wp2_with fail
   refine HM.out.mono ?_
   rintro e w1 ⟨rfl, hb1⟩
   have HB1 := Lib.hid hb1
   have HC := Lib.hid (HF.out w1 hb1)
   clear hb1
   go_wp2_with fail
   refine HC.out.mono ?_
   rintro e w2 ⟨rfl, hb2⟩
   have hB2 := HB1.out.trans (hb2.mono HB1.out.size)
   have HB2 := Lib.hid hB2
   have e0 := below_cell hB2 d0
   have e1 := below_cell hB2 d1
   clear hb2 hB2 d0 d1
   go_wp2_with fail
   refine (HTS.out w2 HB2.out).mono ?_
   rintro e w3 ⟨B, σ, rfl, hO, hb3⟩
   have HB3 := Lib.hid (HB2.out.trans (hb3.mono HB2.out.size))
   obtain ⟨b, h1, -, h3⟩ := hO.told (nl - 1) (by omega) (by rw [← HL.out]; exact HFK.out)
   have c1 := hO.at h1
   have HO3 := Lib.hid (h3.low (lo' := w.heap.size) (by have := HB.out.size; have := HB2.out.size; omega))
   clear hb3 hO h1 h3 e0 e1
   go_wp2_with fail
   go_ret
   refine ⟨HB.out.trans (HB3.out.mono HB.out.size), b, rfl, HO3.out.congr fun p _ => ?_⟩
   rw [← HL.out]
   exact tb_root p
end Go.Proofs.YtdbgaccnejffpaaGreat.Sat
