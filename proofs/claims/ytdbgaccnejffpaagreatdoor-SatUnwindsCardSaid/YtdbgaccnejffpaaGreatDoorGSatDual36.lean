/-
  The landed node: the kinds of paths, then any kind (stage 15). By an AI agent.
  The landed node of any kind; sat.All (stage 15). By an AI agent.
  The landed At (stage 15). By an AI agent.
  slices.Equal of two rows of bools. By an AI agent.
-/
import Derived.Test.YtdbgaccnejffpaaGreatDoorGSatDual24
import Derived.Test.YtdbgaccnejffpaaGreatDoorGSatDual35
import Derived.Test.YtdbgaccnejffpaaGreatDoorGSatDual1
import Derived.Test.YtdbgaccnejffpaaGreatDoorGSatDual20
import Derived.Test.YtdbgaccnejffpaaGreatDoorGSatDual33
import Derived.Test.YtdbgaccnejffpaaGreatDoorGSatDual2
namespace Go.Proofs.YtdbgaccnejffpaaGreatDoor.Sat
open Go.RowKit Go.Proofs.YtdbgaccnejffpaaGreatDoor.Ints Go.Proofs.YtdbgaccnejffpaaGreatDoor.Mem Go.Proofs.YtdbgaccnejffpaaGreatDoor.Src Go.Proofs.YtdbgaccnejffpaaGreatDoor.Paths Go.Proofs.YtdbgaccnejffpaaGreatDoor.Late Go.Proofs.YtdbgaccnejffpaaGreatDoor.Trace
set_option maxHeartbeats 8000000 in
set_option maxRecDepth 100000 in
theorem node_16 (J : Jd) (w0 : World) (σ : List Value) (k m c : Nat) (nm : ByteArray) (lo hi : Int) (ks : List Int) (K : Option Addr) (w : World) (h : JS J w0 σ w) (hl : Live J k σ w) (hnv : Nv J w0 k ⟨16, nm, lo, hi, ks⟩ K m c) :
  Calls Tryz.prog 24 #[.pointer (some ⟨J.gj, 0, none⟩), .agg #[.int .i64 16, .string nm, .int .i64 lo, .int .i64 hi, .slice K m c]] w (GotNd J w0 k σ w) := by
 obtain ⟨W, hW⟩ : ∃ W, w.alloc (.cells #[.int .i64 16, .string nm, .int .i64 lo, .int .i64 hi, .slice K m c] 37) = W := ⟨_, rfl⟩
 have hbW : Below w.heap.size w W := by rw [← hW]; exact (Below.refl _ _).alloc (Nat.le_refl _) _
 have d0 : W.cell? ⟨w.heap.size, 0, none⟩ = some (.int .i64 16) := by rw [← hW]; exact box_cell 0 _ rfl
 have d1 : W.cell? ⟨w.heap.size, 1, none⟩ = some (.string nm) := by rw [← hW]; exact box_cell 1 _ rfl
 have d2 : W.cell? ⟨w.heap.size, 2, none⟩ = some (.int .i64 lo) := by rw [← hW]; exact box_cell 2 _ rfl
 have d3 : W.cell? ⟨w.heap.size, 3, none⟩ = some (.int .i64 hi) := by rw [← hW]; exact box_cell 3 _ rfl
 have d4 : W.cell? ⟨w.heap.size, 4, none⟩ = some (.slice K m c) := by rw [← hW]; exact box_cell 4 _ rfl
 have HC := Lib.hid (landBack J w0 σ k m c nm lo hi ks K W (h.later hbW) (hl.grown (grown_any hbW)) hnv)
 have HGW := Lib.hid (grown_any (o := J.bt) hbW)
 clear h hl hnv hbW
 go_enter Tryz.func24, Tryz.ntmps24
 go_wp2_with fail
 refine HC.out.mono ?_
 rintro e w1 ⟨σ', A, q, d, rfl, h2, h3, h4, h5⟩
 have HX := Lib.hid (And.intro h2 (And.intro h3 (And.intro h4 h5)))
 clear h2 h3 h4 h5
 go_wp2_with fail
 go_ret
 exact ⟨σ', A, q, d, rfl, HX.out.1, grown_tr HGW.out HX.out.2.1, HX.out.2.2.1, HX.out.2.2.2⟩
set_option maxHeartbeats 8000000 in
set_option maxRecDepth 100000 in
theorem node_17 (J : Jd) (w0 : World) (σ : List Value) (k m c : Nat) (nm : ByteArray) (lo hi : Int) (ks : List Int) (K : Option Addr) (w : World) (h : JS J w0 σ w) (hl : Live J k σ w) (hnv : Nv J w0 k ⟨17, nm, lo, hi, ks⟩ K m c) :
  Calls Tryz.prog 24 #[.pointer (some ⟨J.gj, 0, none⟩), .agg #[.int .i64 17, .string nm, .int .i64 lo, .int .i64 hi, .slice K m c]] w (GotNd J w0 k σ w) := by
 obtain ⟨W, hW⟩ : ∃ W, w.alloc (.cells #[.int .i64 17, .string nm, .int .i64 lo, .int .i64 hi, .slice K m c] 37) = W := ⟨_, rfl⟩
 have hbW : Below w.heap.size w W := by rw [← hW]; exact (Below.refl _ _).alloc (Nat.le_refl _) _
 have d0 : W.cell? ⟨w.heap.size, 0, none⟩ = some (.int .i64 17) := by rw [← hW]; exact box_cell 0 _ rfl
 have d1 : W.cell? ⟨w.heap.size, 1, none⟩ = some (.string nm) := by rw [← hW]; exact box_cell 1 _ rfl
 have d2 : W.cell? ⟨w.heap.size, 2, none⟩ = some (.int .i64 lo) := by rw [← hW]; exact box_cell 2 _ rfl
 have d3 : W.cell? ⟨w.heap.size, 3, none⟩ = some (.int .i64 hi) := by rw [← hW]; exact box_cell 3 _ rfl
 have d4 : W.cell? ⟨w.heap.size, 4, none⟩ = some (.slice K m c) := by rw [← hW]; exact box_cell 4 _ rfl
 have HC := Lib.hid (landFore J w0 σ k m c nm lo hi ks K W (h.later hbW) (hl.grown (grown_any hbW)) hnv)
 have HGW := Lib.hid (grown_any (o := J.bt) hbW)
 clear h hl hnv hbW
 go_enter Tryz.func24, Tryz.ntmps24
 go_wp2_with fail
 refine HC.out.mono ?_
 rintro e w1 ⟨σ', A, q, d, rfl, h2, h3, h4, h5⟩
 have HX := Lib.hid (And.intro h2 (And.intro h3 (And.intro h4 h5)))
 clear h2 h3 h4 h5
 go_wp2_with fail
 go_ret
 exact ⟨σ', A, q, d, rfl, HX.out.1, grown_tr HGW.out HX.out.2.1, HX.out.2.2.1, HX.out.2.2.2⟩
end Go.Proofs.YtdbgaccnejffpaaGreatDoor.Sat

namespace Go.Proofs.YtdbgaccnejffpaaGreatDoor.Sat
open Go.RowKit Go.Proofs.YtdbgaccnejffpaaGreatDoor.Ints Go.Proofs.YtdbgaccnejffpaaGreatDoor.Mem Go.Proofs.YtdbgaccnejffpaaGreatDoor.Src Go.Proofs.YtdbgaccnejffpaaGreatDoor.Paths Go.Proofs.YtdbgaccnejffpaaGreatDoor.Late Go.Proofs.YtdbgaccnejffpaaGreatDoor.Trace
theorem landNode (J : Jd) (w0 : World) (σ : List Value) (k m c : Nat) (nd : Tree.Nd) (K : Option Addr) (w : World) (h : JS J w0 σ w) (hl : Live J k σ w) (hnv : Nv J w0 k nd K m c) :
  Calls Tryz.prog 24 #[.pointer (some ⟨J.gj, 0, none⟩), Tree.ndV nd K m c] w (GotNd J w0 k σ w) := by
 obtain ⟨kd, nm, lo, hi, ks⟩ := nd
 have hf := node_fields h.ml hnv.hk
 unfold Tree.fieldsB at hf
 rw [Bool.and_eq_true] at hf
 have hr : 1 ≤ kd ∧ kd ≤ 22 := (Tree.kinds_range kd).1 hf.1
 obtain ⟨q1, q2⟩ := hr
 have hc : kd = 1 ∨ kd = 2 ∨ kd = 3 ∨ kd = 4 ∨ kd = 5 ∨ kd = 6 ∨ kd = 7 ∨ kd = 8 ∨ kd = 9 ∨ kd = 10 ∨ kd = 11 ∨ kd = 12 ∨ kd = 13 ∨ kd = 14 ∨ kd = 15 ∨ kd = 16 ∨ kd = 17 ∨ kd = 18 ∨ kd = 19 ∨ kd = 20 ∨ kd = 21 ∨ kd = 22 := by omega
 clear hf q1 q2
 rcases hc with rfl | rfl | rfl | rfl | rfl | rfl | rfl | rfl | rfl | rfl | rfl | rfl | rfl | rfl | rfl | rfl | rfl | rfl | rfl | rfl | rfl | rfl
 ·exact node_1 J w0 σ k m c nm lo hi ks K w h hl hnv
 ·exact node_2 J w0 σ k m c nm lo hi ks K w h hl hnv
 ·exact node_3 J w0 σ k m c nm lo hi ks K w h hl hnv
 ·exact node_4 J w0 σ k m c nm lo hi ks K w h hl hnv
 ·exact node_5 J w0 σ k m c nm lo hi ks K w h hl hnv
 ·exact node_6 J w0 σ k m c nm lo hi ks K w h hl hnv
 ·exact node_7 J w0 σ k m c nm lo hi ks K w h hl hnv
 ·exact node_8 J w0 σ k m c nm lo hi ks K w h hl hnv
 ·exact node_9 J w0 σ k m c nm lo hi ks K w h hl hnv
 ·exact node_10 J w0 σ k m c nm lo hi ks K w h hl hnv
 ·exact node_11 J w0 σ k m c nm lo hi ks K w h hl hnv
 ·exact node_12 J w0 σ k m c nm lo hi ks K w h hl hnv
 ·exact node_13 J w0 σ k m c nm lo hi ks K w h hl hnv
 ·exact node_14 J w0 σ k m c nm lo hi ks K w h hl hnv
 ·exact node_15 J w0 σ k m c nm lo hi ks K w h hl hnv
 ·exact node_16 J w0 σ k m c nm lo hi ks K w h hl hnv
 ·exact node_17 J w0 σ k m c nm lo hi ks K w h hl hnv
 ·exact node_18 J w0 σ k m c nm lo hi ks K w h hl hnv
 ·exact node_19 J w0 σ k m c nm lo hi ks K w h hl hnv
 ·exact node_20 J w0 σ k m c nm lo hi ks K w h hl hnv
 ·exact node_21 J w0 σ k m c nm lo hi ks K w h hl hnv
 ·exact node_22 J w0 σ k m c nm lo hi ks K w h hl hnv
theorem live_next {J : Jd} {w0 w w' : World} {σ : List Value} {k : Nat} {e : Ending} (hl : Live J k σ w) (hk : k < J.l.length) (hg : GotNd J w0 k σ w e w') :
  ∃ (σ' : List Value) (A : Option Addr) (q c : Nat), e = .returned (.slice A q c) ∧ JS J w0 (σ'.set k (.slice A q c)) (w'.setCell ⟨J.bt, k, none⟩ (.slice A q c)) ∧ Live J (k + 1) (σ'.set k (.slice A q c)) (w'.setCell ⟨J.bt, k, none⟩ (.slice A q c)) ∧ w'.cell? ⟨J.gj, 3, none⟩ = some (.slice (some ⟨J.bt, 0, none⟩) J.l.length J.l.length) ∧ w'.frozen? ⟨J.bt, k, none⟩ = false ∧ w.grownBy w' (some J.bt) ∧ (∃ u, w'.cell? ⟨J.bt, k, none⟩ = some u) := by
 obtain ⟨σ', A, q, c, rfl, h2, h3, h4, h5⟩ := hg
 have hlen : k < σ'.length := by rw [h2.len]; exact hk
 refine ⟨σ', A, q, c, rfl, h2.put k _, fun i hi hd hf => ?_, h2.blk.cell 3 rfl, ?_, h3, ⟨_, h2.at (List.getElem?_eq_getElem hlen)⟩⟩
 ·have hgc := grown_cell w' ⟨J.bt, k, none⟩ (.slice A q c)
  by_cases e : i = k
  ·subst e
   refine ⟨_, by rw [List.getElem?_set, if_pos rfl, if_pos hlen], (h5 hf).grown hgc⟩
  ·have hd2 : ¬ dead J.l k i := fun x => hd (dead_succ.2 (.inl x))
   have ht2 : ¬ took J.l k i := fun x => hd (dead_succ.2 (.inr x))
   obtain ⟨v, e1, ht⟩ := hl i (by omega) hd2 hf
   exact ⟨v, by rw [set_off _ (fun x => e x.symm), h4 i ht2]; exact e1, (ht.grown h3).grown hgc⟩
 ·exact own_fz h2.row k
theorem form_root {l : List Tree.Nd} (h : Tree.formL l = true) : Tree.mayL l = true ∧ Tree.formKind (kindN l (l.length - 1)) = true := by
 unfold Tree.formL at h
 rw [Bool.and_eq_true] at h
 refine ⟨h.1, ?_⟩
 have h2 := h.2
 unfold Tree.lastKind at h2
 unfold kindN
 rwa [List.getLast?_eq_getElem?] at h2
noncomputable def tb (t : Tr) (l : List Tree.Nd) (p : Nat) : Bool := @decide (sem (tmOf t) (foOf l) p p) (Classical.propDecidable _)
theorem tb_iff (t : Tr) (l : List Tree.Nd) (p : Nat) : tb t l p = true ↔ sem (tmOf t) (foOf l) p p := @decide_eq_true_iff _ (Classical.propDecidable _)
set_option maxHeartbeats 8000000 in
set_option maxRecDepth 100000 in
theorem landAll (NA : Option Addr) (nn nc : Nat) (EA : Option Addr) (ne ec : Nat) (t : Tr) (A : Option Addr) (n c : Nat) (l : List Tree.Nd) (w : World) (hT : TrOk Any w NA nn nc EA ne ec t) (hN : Tree.Nodes Tree.Any w A l) (hl : l.length = n) (hnc : n ≤ c ∧ c ≤ maxLen) (hn : n ≤ 1000) (he : ne ≤ 64) :
  Calls Tryz.prog 16 #[.agg #[.slice NA nn nc, .slice EA ne ec], .slice A n c] w fun e w' => Below w.heap.size w w' ∧
   if (mayT t && Tree.formL l) = true then ∃ b, e = .returned (.slice (some ⟨b, 0, none⟩) ne ne) ∧ OB w' w.heap.size b ne (tb t l) else e = .returned (.slice none 0 0) := by
 obtain ⟨i1, hi1, hy0, hy1, hy2⟩ := info_parts infoBs
 have q63 : maxLen = 9223372036854775807 := rfl
 obtain ⟨W, hW⟩ : ∃ W, w.alloc (.cells #[.slice NA nn nc, .slice EA ne ec] 28) = W := ⟨_, rfl⟩
 have hbW : Below w.heap.size w W := by rw [← hW]; exact (Below.refl _ _).alloc (Nat.le_refl _) _
 have d0 : W.cell? ⟨w.heap.size, 0, none⟩ = some (.slice NA nn nc) := by rw [← hW]; exact box_cell 0 _ rfl
 have d1 : W.cell? ⟨w.heap.size, 1, none⟩ = some (.slice EA ne ec) := by rw [← hW]; exact box_cell 1 _ rfl
 have HB := Lib.hid hbW
 have HM := Lib.hid (landMay NA nn nc EA ne ec t W (hT.below hbW))
 have HF := Lib.hid (fun V (hb : Below W.heap.size W V) => Tree.landForm A n c l V hl (by omega) (hN.below (hbW.trans (hb.mono hbW.size))))
 have HTN := Lib.hid (And.intro hT (And.intro hN (And.intro hl hnc)))
 have b1 : i1.bytes * n ≤ 281474976710656 := by rw [hy2]; omega
 have b3 : n ≤ maxLen := by omega
 have hni : ((n : Nat) : Int) ≤ 1000 := by omega
 have hni2 : ((n : Nat) : Int) ≤ 9223372036854775807 := by omega
 have HSW := Lib.hid (World.block_lt_of_cell? _ _ d0)
 clear hT hN hl hnc hbW
 cases hm : mayT t
 ·rw [hm] at HM
  clear hm HF
  go_enter Tryz.func16, Tryz.ntmps16
  go_wp2_with fail
  refine HM.out.mono ?_
  rintro e w1 ⟨rfl, hb1⟩
  have HB1 := Lib.hid hb1
  clear hb1
  go_wp2_with fail
  go_ret
  exact ⟨HB.out.trans (HB1.out.mono HB.out.size), rfl⟩
 ·rw [hm] at HM
  cases hf : Tree.formL l
  ·rw [hf] at HF
   have HMF := Lib.hid (And.intro hm hf)
   clear hm hf
   go_enter Tryz.func16, Tryz.ntmps16
   go_wp2_with fail
   refine HM.out.mono ?_
   rintro e w1 ⟨rfl, hb1⟩
   have HC := Lib.hid (HF.out w1 hb1)
   have HB1 := Lib.hid hb1
   clear hb1
   go_wp2_with fail
   refine HC.out.mono ?_
   rintro e w2 ⟨rfl, hb2⟩
   have HB2 := Lib.hid hb2
   clear hb2
   go_wp2_with fail
   go_ret
   have h1 := HB1.out.trans (HB2.out.mono HB1.out.size)
   exact ⟨HB.out.trans (h1.mono HB.out.size), rfl⟩
  ·rw [hf] at HF
   have HMF := Lib.hid (And.intro hm hf)
   clear hm hf
   go_enter Tryz.func16, Tryz.ntmps16
   go_wp2_with fail
   refine HM.out.mono ?_
   rintro e w1 ⟨rfl, hb1⟩
   have HC := Lib.hid (HF.out w1 hb1)
   have HB1 := Lib.hid hb1
   clear hb1
   go_wp2_with fail
   refine HC.out.mono ?_
   rintro e w2 ⟨rfl, hb2⟩
   have h1 := HB1.out.trans (hb2.mono HB1.out.size)
   have e0 := below_cell h1 d0
   have e1 := below_cell h1 d1
   have HB2 := Lib.hid h1
   clear hb2 h1 d0 d1
   go_wp2_with fail
   refine wp_region_held_drew (S := fun V => V.cell? ⟨w.heap.size, 0, none⟩ = some (.slice NA nn nc) ∧ V.cell? ⟨w.heap.size, 1, none⟩ = some (.slice EA ne ec)) (by kernel_rfl) ⟨e0, e1⟩ (fun hHeld => ?_)
   refine tkOp 0 hHeld ?_
   refine tkOp 1 hHeld ?_
   refine tkOp 2 hHeld ?_
   refine tkOp 3 hHeld ?_
   refine tkOp 4 hHeld ?_
   refine tkOp 5 hHeld ?_
   refine tkOp 6 hHeld ?_
   refine tkCall 7 (fun Kt hKt => ?_)
   go_simp
   (obtain ⟨w3, hrun, hmade, hgr3⟩ := run_make_full (P := Tryz.prog) w2.drew w.heap.size 63 52 i1 (.slice none 0 0) 1 Tryz.underlying63 hi1 hy0 hy1 .i64 .i64 n b1 b3 (Nat.le_trans HB.out.size HB2.out.size); rw [hrun]; rw [made_slices] at hmade; go_simp)
   refine hKt.out _ _ ?_ (fun hT => ?_)
   ·(exact ⟨hgr3.cell hHeld.1 (fun e => nomatch e), hgr3.cell hHeld.2 (fun e => nomatch e)⟩)
   clear hKt Kt hHeld
   have hHeld := hT
   clear hT
   try simp only [Act.put, tkA, tkB, tkC]
   refine tkOp 8 hHeld ?_
   refine tkCall 9 (fun Kt hKt => ?_)
   go_simp
   refine hKt.out _ _ ?_ (fun hT => ?_)
   ·(exact ⟨below_cell ((Below.refl _ _).alloc (Nat.le_refl _) _) hHeld.1, below_cell ((Below.refl _ _).alloc (Nat.le_refl _) _) hHeld.2⟩)
   clear hKt Kt hHeld
   have hHeld := hT
   clear hT
   try simp only [Act.put, tkA, tkB, tkC]
   refine tkOp 10 hHeld ?_
   refine wpAnyH_done (by kernel_rfl) ?_ _
   clear hHeld
   obtain ⟨hT, hN, hl, hnc⟩ := HTN.out
   have hml : Tree.mayL l = true ∧ Tree.formKind (kindN l (l.length - 1)) = true := form_root HMF.out.2
   obtain ⟨bt, hbt⟩ : ∃ bt, w2.heap.size = bt := ⟨_, rfl⟩
   obtain ⟨g, hg⟩ : ∃ g, w3.heap.size = g := ⟨_, rfl⟩
   have hbt3 : bt < g := by rw [← hg, ← hbt]; exact (World.ownsRow.lt hmade w2.drew.heap.size rfl).2
   have hwb : w.heap.size ≤ bt := by rw [← hbt]; exact Nat.le_trans HB.out.size HB2.out.size
   have hb3 : Below w.heap.size w w3 := by
    have h1 : Below w2.heap.size w2 w3 := ⟨hgr3.os, hgr3.tape, hgr3.output, hgr3.size, fun k hk => hgr3.block k hk (by simp)⟩
    have h2 := HB.out.trans (HB2.out.mono HB.out.size)
    exact h2.trans (h1.mono h2.size)
   obtain ⟨W4, hW4⟩ : ∃ W4, w3.alloc (.cells #[.slice NA nn nc, .slice EA ne ec, .slice A n c, .slice (some ⟨w2.heap.size, 0, none⟩) n n] 65) = W4 := ⟨_, rfl⟩
   have HJS := Lib.hid (show JS ⟨g, ne, nn, nc, ec, c, bt, NA, EA, A, t, l⟩ w (List.replicate n (.slice none 0 0)) W4 from by
    have h4 : Below w3.heap.size w3 W4 := by rw [← hW4]; exact (Below.refl _ _).alloc (Nat.le_refl _) _
    refine ⟨hT, hN, ⟨by rw [hl]; exact hnc.1, hnc.2⟩, HMF.out.1, hml.1, he, by rw [hl]; exact hn, hb3.trans (h4.mono hb3.size), ?_, ?_, ?_, ?_⟩
    ·show Blk W4 g [.slice NA nn nc, .slice EA ne ec, .slice A l.length c, .slice (some ⟨bt, 0, none⟩) l.length l.length]
     rw [hl, ← hg, ← hbt, ← hW4]
     exact Blk.new w3 _ _ _ rfl
    ·show W4.ownsRow w.heap.size 52 1 (.slice (some ⟨bt, 0, none⟩) l.length l.length) l.length _
     rw [hl, ← hbt]
     exact below_row hmade h4
    ·show w.heap.size ≤ g
     omega
    ·show g ≠ bt
     omega)
   rw [hW4, hg, hbt]
   have HX := Lib.hid (And.intro hl (And.intro hml.2 (And.intro hbt3 hwb)))
   have HGN := Lib.hid hg
   clear hT hN hnc hml hb3 hW4 hmade hgr3 hrun hg hbt hbt3 hwb
   go_wp2_with fail
   go_loopw [6, 7, 28] (fun _ _ v wr => ∃ (k : Nat) (σ : List Value), v = .int .i64 ((k : Nat) : Int) ∧ k ≤ n ∧ JS ⟨g, ne, nn, nc, ec, c, bt, NA, EA, A, t, l⟩ w σ wr ∧ Live ⟨g, ne, nn, nc, ec, c, bt, NA, EA, A, t, l⟩ k σ wr) (fun _ _ v _ => n - (intOf v).toNat)
   case atStart => exact ⟨0, _, rfl, Nat.zero_le _, HJS.out, fun i hi => absurd hi (Nat.not_lt_zero _)⟩
   case round =>
    obtain ⟨k, σ, rfl, hkn, hJS, hLv⟩ := hrel
    have HJ := Lib.hid hJS
    have HLv := Lib.hid hLv
    by_cases hlt : k < n
    ·obtain ⟨b, off, nd, K, m, cK, hA, hnv, hcm, hns, x0, x1, x2, x3, x4⟩ := hJS.node (show k < l.length by rw [hl]; exact hlt)
     have hA : A = some ⟨b, off, none⟩ := hA
     subst hA
     have HNV := Lib.hid hnv
     have y0 := below_cell hJS.low x0
     have y1 := below_cell hJS.low x1
     have y2 := below_cell hJS.low x2
     have y3 := below_cell hJS.low x3
     have y4 := below_cell hJS.low x4
     have c3 : wr.cell? ⟨g, 3, none⟩ = some (.slice (some ⟨bt, 0, none⟩) n n) := by rw [← hl]; exact hJS.blk.cell 3 rfl
     have hki : ((k : Nat) : Int) < ((n : Nat) : Int) := by omega
     clear hJS hLv hnv x0 x1 x2 x3 x4 hcm hns
     go_wp2_with fail
     obtain ⟨W6, hW6⟩ : ∃ W6, wr.alloc (.cells #[.int .i64 nd.kind, .string nd.name, .int .i64 nd.lo, .int .i64 nd.hi, .slice K m cK] 37) = W6 := ⟨_, rfl⟩
     have hb6 : Below wr.heap.size wr W6 := by rw [← hW6]; exact (Below.refl _ _).alloc (Nat.le_refl _) _
     have z0 : W6.cell? ⟨wr.heap.size, 0, none⟩ = some (.int .i64 nd.kind) := by rw [← hW6]; exact box_cell 0 _ rfl
     have z1 : W6.cell? ⟨wr.heap.size, 1, none⟩ = some (.string nd.name) := by rw [← hW6]; exact box_cell 1 _ rfl
     have z2 : W6.cell? ⟨wr.heap.size, 2, none⟩ = some (.int .i64 nd.lo) := by rw [← hW6]; exact box_cell 2 _ rfl
     have z3 : W6.cell? ⟨wr.heap.size, 3, none⟩ = some (.int .i64 nd.hi) := by rw [← hW6]; exact box_cell 3 _ rfl
     have z4 : W6.cell? ⟨wr.heap.size, 4, none⟩ = some (.slice K m cK) := by rw [← hW6]; exact box_cell 4 _ rfl
     have c6 := below_cell hb6 c3
     have hJ6 := (HJ.out.later hb6).later (Below.refl _ _).drew
     have hL6 := (HLv.out.grown (grown_any hb6)).grown (grown_any (Below.refl _ _).drew)
     have HN6 := Lib.hid (landNode _ w σ k m cK nd K W6.drew hJ6 hL6 HNV.out)
     have HL6 := Lib.hid hL6
     have HNE := Lib.hid (show wr.heap.size ≠ bt from by have := HJ.out.bt0.2; have h2 : bt < wr.heap.size := this; omega)
     have HKL := Lib.hid (show k < l.length from by rw [HX.out.1]; exact hlt)
     rw [hW6]
     clear y0 y1 y2 y3 y4 c3 hb6 hJ6 hL6
     refine Late.drew [9] (S := fun V => V.cell? ⟨g, 3, none⟩ = some (.slice (some ⟨bt, 0, none⟩) n n) ∧ V.cell? ⟨wr.heap.size, 0, none⟩ = some (.int .i64 nd.kind) ∧ V.cell? ⟨wr.heap.size, 1, none⟩ = some (.string nd.name) ∧ V.cell? ⟨wr.heap.size, 2, none⟩ = some (.int .i64 nd.lo) ∧ V.cell? ⟨wr.heap.size, 3, none⟩ = some (.int .i64 nd.hi) ∧ V.cell? ⟨wr.heap.size, 4, none⟩ = some (.slice K m cK)) (by kernel_rfl) ⟨c6, z0, z1, z2, z3, z4⟩ (fun hHeld => ?_)
     refine ltOp 0 hHeld ?_
     refine ltOp 1 hHeld ?_
     refine ltOp 2 hHeld ?_
     refine ltOp 3 hHeld ?_
     refine ltOp 4 hHeld ?_
     refine ltOp 5 hHeld ?_
     refine ltOp 6 hHeld ?_
     refine ltCall 7 (fun Kt hKt => ?_)
     go_simp
     (go_at_call 24; refine HN6.out.mono ?_; intro e w5 hG; obtain ⟨σ', A5, q5, c5, rfl, p1, p2, p3, p4, p5, u9, p6⟩ := live_next HL6.out HKL.out hG; have c9 : w5.cell? ⟨bt, k, none⟩ = some u9 := p6; have f9 : w5.frozen? ⟨bt, k, none⟩ = false := p4)
     refine hKt.out _ _ ?_ (fun hT => ?_)
     ·(exact ⟨by rw [← HX.out.1]; exact p3, box_keep hHeld.2 p5 HNE.out⟩)
     clear hKt Kt hHeld
     have hHeld := hT
     clear hT
     try simp only [Act.put, tkA, tkB, tkC]
     refine ltOp 8 hHeld ?_
     refine ltLast 9 (fun Kt hKt => ?_)
     go_simp
     refine hKt.out _ _ trivial (fun hT => ?_)
     clear hKt Kt hHeld
     have hHeld := hT
     clear hT
     try simp only [Act.put, tkA, tkB, tkC]
     refine wpAnyH_done (by kernel_rfl) ?_ _
     have HP := Lib.hid (And.intro p1 p2)
     clear hHeld p1 p2 p3 p4 p5 p6 c9 hW6 z0 z1 z2 z3 z4 c6 f9
     go_wp2_with fail
     go_roundw
     case rel => exact ⟨k + 1, _, by simp, by omega, HP.out.1, HP.out.2⟩
     case measure => (show n - (k + 1) < n - k; omega)
    ·obtain rfl : k = n := by omega
     have hnk : 1 ≤ k := by
      have h1 := HX.out.1
      have h2 := HX.out.2.1
      rcases Nat.eq_zero_or_pos k with e | e
      ·exfalso
       have h9 : l = [] := by
        apply List.eq_nil_of_length_eq_zero
        omega
       rw [h9] at h2
       exact absurd h2 (by decide)
      ·exact e
     obtain ⟨v, hv, bv, rfl, v1, v2, v3, v4⟩ := hLv (k - 1) (by omega) (by rw [← HX.out.1]; exact root_live hJS.ml) (.inl (by rw [← HX.out.1]; exact HX.out.2.1))
     have hki : ((k : Nat) : Int) - 1 = ((k - 1 : Nat) : Int) := by omega
     have HTK := Lib.hid (landTake _ w σ (k - 1) _ _ _ wr hJS (show k - 1 < l.length by have := HX.out.1; omega) hv)
     have HV := Lib.hid (And.intro v1 (And.intro v2 v4))
     have HKL := Lib.hid hnk
     clear hJS hLv hv v1 v2 v3 v4 hnk
     go_wp2_with fail
     refine HTK.out.mono ?_
     rintro e w5 ⟨rfl, t1, t2⟩
     have HE := Lib.hid (And.intro t1 t2)
     clear t1 t2
     go_wp2_with fail
     go_ret
     refine ⟨HE.out.1.low, ?_⟩
     refine ⟨bv, rfl, ?_⟩
     have h1 : bv < wr.heap.size := HV.out.2.1
     have h2 : bv ≠ bt := HV.out.1
     have h3 : OB wr g bv ne (tvB ⟨g, ne, nn, nc, ec, c, bt, NA, EA, A, t, l⟩ (k - 1)) := HV.out.2.2
     have h4 := (h3.same (HE.out.2.block bv h1 (fun e => h2 (by injection e)))).low (show w.heap.size ≤ g by have := HX.out.2.2; omega)
     refine h4.congr fun p hp => ?_
     unfold tb foOf
     rw [HX.out.1]
     rfl
end Go.Proofs.YtdbgaccnejffpaaGreatDoor.Sat

namespace Go.Proofs.YtdbgaccnejffpaaGreatDoor.Sat
open Go.RowKit Go.Proofs.YtdbgaccnejffpaaGreatDoor.Ints Go.Proofs.YtdbgaccnejffpaaGreatDoor.Mem Go.Proofs.YtdbgaccnejffpaaGreatDoor.Src Go.Proofs.YtdbgaccnejffpaaGreatDoor.Paths Go.Proofs.YtdbgaccnejffpaaGreatDoor.Late Go.Proofs.YtdbgaccnejffpaaGreatDoor.Trace
noncomputable def atB (t : Tr) (l : List Tree.Nd) (i : Int) : Bool := mayT t && Tree.formL l && decide (0 ≤ i) && decide (i < (t.events.length : Int)) && tb t l i.toNat
set_option maxHeartbeats 8000000 in
set_option maxRecDepth 100000 in
theorem landAt (NA : Option Addr) (nn nc : Nat) (EA : Option Addr) (ne ec : Nat) (t : Tr) (A : Option Addr) (n c : Nat) (l : List Tree.Nd) (i : Int) (w : World) (hT : TrOk Any w NA nn nc EA ne ec t) (hN : Tree.Nodes Tree.Any w A l) (hl : l.length = n) (hnc : n ≤ c ∧ c ≤ maxLen) (hn : n ≤ 1000) (he : ne ≤ 64) :
  Calls Tryz.prog 19 #[.agg #[.slice NA nn nc, .slice EA ne ec], .int .i64 i, .slice A n c] w fun e w' => e = .returned (.bool (atB t l i)) ∧ Below w.heap.size w w' := by
 obtain ⟨W, hW⟩ : ∃ W, w.alloc (.cells #[.slice NA nn nc, .slice EA ne ec] 28) = W := ⟨_, rfl⟩
 have hbW : Below w.heap.size w W := by rw [← hW]; exact (Below.refl _ _).alloc (Nat.le_refl _) _
 have d0 : W.cell? ⟨w.heap.size, 0, none⟩ = some (.slice NA nn nc) := by rw [← hW]; exact box_cell 0 _ rfl
 have d1 : W.cell? ⟨w.heap.size, 1, none⟩ = some (.slice EA ne ec) := by rw [← hW]; exact box_cell 1 _ rfl
 have HA := Lib.hid (landAll NA nn nc EA ne ec t A n c l W (hT.below hbW) (hN.below hbW) hl hnc hn he)
 have hen : t.events.length = ne := hT.elen
 have HBW := Lib.hid hbW
 have hni : (ne : Int) ≤ 64 := by omega
 clear hT hN hl hnc hbW
 cases hg : (mayT t && Tree.formL l)
 ·rw [hg] at HA
  have HR := Lib.hid (show atB t l i = false from by unfold atB; rw [hg]; rfl)
  clear hg
  go_enter Tryz.func19, Tryz.ntmps19
  go_wp2_with fail
  refine HA.out.mono ?_
  rintro e w1 ⟨hb, he⟩
  rw [if_neg (by decide)] at he
  subst he
  have HB := Lib.hid (HBW.out.trans (hb.mono HBW.out.size))
  clear hb
  by_cases h0 : 0 ≤ i
  ·have h1 : ¬ i < 0 := by omega
   go_wp2_with fail
   go_ret
   exact ⟨by rw [HR.out]; rfl, HB.out⟩
  ·go_wp2_with fail
   go_ret
   exact ⟨by rw [HR.out]; rfl, HB.out⟩
 ·rw [hg] at HA
  have HE := Lib.hid (And.intro hg hen)
  clear hg
  go_enter Tryz.func19, Tryz.ntmps19
  go_wp2_with fail
  refine HA.out.mono ?_
  rintro e w1 ⟨hb, he⟩
  rw [if_pos trivial] at he
  obtain ⟨b, rfl, ho⟩ := he
  have HB := Lib.hid (HBW.out.trans (hb.mono HBW.out.size))
  have HO := Lib.hid ho.rb
  clear hb ho
  by_cases h0 : 0 ≤ i
  ·by_cases h1 : i < (ne : Int)
   ·obtain ⟨p, hp⟩ : ∃ p : Nat, i = (p : Int) := ⟨i.toNat, by omega⟩
    subst hp
    have c0 := HO.out p (by omega)
    go_wp2_with fail
    go_ret
    refine ⟨?_, HB.out⟩
    unfold atB
    rw [HE.out.1, HE.out.2, decide_eq_true h0, decide_eq_true h1, Int.toNat_natCast]
    rfl
   ·go_wp2_with fail
    go_ret
    refine ⟨?_, HB.out⟩
    unfold atB
    rw [HE.out.1, HE.out.2, decide_eq_true h0, decide_eq_false (show ¬ (i < (ne : Int)) from by omega)]
    rfl
  ·go_wp2_with fail
   go_ret
   refine ⟨?_, HB.out⟩
   unfold atB
   rw [HE.out.1, decide_eq_false (show ¬ (0 ≤ i) from by omega)]
   rfl
end Go.Proofs.YtdbgaccnejffpaaGreatDoor.Sat

namespace Go.Proofs.YtdbgaccnejffpaaGreatDoor.Sat
open Go.RowKit Go.Proofs.YtdbgaccnejffpaaGreatDoor.Ints Go.Proofs.YtdbgaccnejffpaaGreatDoor.Mem Go.Proofs.YtdbgaccnejffpaaGreatDoor.Src
set_option maxHeartbeats 4000000 in
set_option maxRecDepth 100000 in
theorem eqBools (b1 o1 c1 b2 o2 c2 n : Nat) (f : Nat → Bool) (w : World) (hn : n ≤ 1000000) (h1 : ∀ j, j < n → w.cell? ⟨b1, o1 + j, none⟩ = some (.bool (f j))) (h2 : ∀ j, j < n → w.cell? ⟨b2, o2 + j, none⟩ = some (.bool (f j))) :
  Calls Tryz.prog 17 #[.slice (some ⟨b1, o1, none⟩) n c1, .slice (some ⟨b2, o2, none⟩) n c2] w fun e w' => e = .returned (.bool true) ∧ Below w.heap.size w w' := by
 have H1 := Lib.hid h1
 have H2 := Lib.hid h2
 have HB0 := Lib.hid (Below.refl w.heap.size w)
 clear h1 h2
 go_enter Tryz.func17, Tryz.ntmps17
 go_wp2_with fail
 go_loopw [5, 13] (fun _ v wr => ∃ i : Nat, v = .int .i64 (i : Nat) ∧ i ≤ n ∧ Below w.heap.size w wr) (fun _ v _ => n - (intOf v).toNat)
 case atStart => exact ⟨0, rfl, Nat.zero_le _, HB0.out⟩
 case round =>
  obtain ⟨i, rfl, hin, hB⟩ := hrel
  have HB := Lib.hid hB
  by_cases hlt : i < n
  ·have x1 := below_cell hB (H1.out i hlt)
   have x2 := below_cell hB (H2.out i hlt)
   clear hB
   go_wp2_with fail
   cases hv : f i <;> rw [hv] at x1 x2
   ·refine wp_region_held_drew (S := fun W => W.cell? ⟨b1, o1 + i, none⟩ = some (.bool false) ∧ W.cell? ⟨b2, o2 + i, none⟩ = some (.bool false)) (by kernel_rfl) ⟨x1, x2⟩ (fun hHeld => ?_)
    refine tkOp 0 hHeld ?_
    refine tkOp 1 hHeld ?_
    refine tkOp 2 hHeld ?_
    refine tkOp 3 hHeld ?_
    refine tkOp 4 hHeld ?_
    refine tkOp 5 hHeld ?_
    refine tkOp 6 hHeld ?_
    refine tkOp 7 hHeld ?_
    refine tkOp 8 hHeld ?_
    refine wpAnyH_done (by kernel_rfl) ?_ _
    clear hHeld
    go_wp2_with fail
    go_roundw
    case rel => exact ⟨i + 1, by simp, by omega, HB.out.drew⟩
    case measure => (show n - (i + 1) < n - i; omega)
   ·refine wp_region_held_drew (S := fun W => W.cell? ⟨b1, o1 + i, none⟩ = some (.bool true) ∧ W.cell? ⟨b2, o2 + i, none⟩ = some (.bool true)) (by kernel_rfl) ⟨x1, x2⟩ (fun hHeld => ?_)
    refine tkOp 0 hHeld ?_
    refine tkOp 1 hHeld ?_
    refine tkOp 2 hHeld ?_
    refine tkOp 3 hHeld ?_
    refine tkOp 4 hHeld ?_
    refine tkOp 5 hHeld ?_
    refine tkOp 6 hHeld ?_
    refine tkOp 7 hHeld ?_
    refine tkOp 8 hHeld ?_
    refine wpAnyH_done (by kernel_rfl) ?_ _
    clear hHeld
    go_wp2_with fail
    go_roundw
    case rel => exact ⟨i + 1, by simp, by omega, HB.out.drew⟩
    case measure => (show n - (i + 1) < n - i; omega)
  ·clear hB
   go_wp2_with fail
   go_ret
   exact ⟨rfl, HB.out⟩
end Go.Proofs.YtdbgaccnejffpaaGreatDoor.Sat
