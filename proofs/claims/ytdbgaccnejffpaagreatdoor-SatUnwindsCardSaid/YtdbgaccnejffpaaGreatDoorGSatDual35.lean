/-
  The landed back (stage 15). By an AI agent.
  The landed fore (stage 15). By an AI agent.
-/
import Derived.Test.YtdbgaccnejffpaaGreatDoorGSatDual34
import Derived.Test.YtdbgaccnejffpaaGreatDoorGSatDual1
namespace Go.Proofs.YtdbgaccnejffpaaGreatDoor.Sat
open Go.RowKit Go.Proofs.YtdbgaccnejffpaaGreatDoor.Ints Go.Proofs.YtdbgaccnejffpaaGreatDoor.Mem Go.Proofs.YtdbgaccnejffpaaGreatDoor.Src Go.Proofs.YtdbgaccnejffpaaGreatDoor.Paths Go.Proofs.YtdbgaccnejffpaaGreatDoor.Late Go.Proofs.YtdbgaccnejffpaaGreatDoor.Trace
noncomputable def exB (J : Jd) (r : Nat) (s : Nat → Nat) (i j : Nat) : Bool := @decide (∃ q, s i ≤ q ∧ q < j ∧ sem (tmOf J.t) (foI J.l r) q i) (Classical.propDecidable _)
theorem ex_iff (J : Jd) (r : Nat) (s : Nat → Nat) (i j : Nat) : exB J r s i j = true ↔ ∃ q, s i ≤ q ∧ q < j ∧ sem (tmOf J.t) (foI J.l r) q i := @decide_eq_true_iff _ (Classical.propDecidable _)
theorem ex_none (J : Jd) (r : Nat) (s : Nat → Nat) (i : Nat) : exB J r s i (s i) = false := by
 rw [Bool.eq_false_iff, Ne, ex_iff]
 rintro ⟨q, h1, h2, -⟩
 omega
theorem ex_next {J : Jd} {r : Nat} {s : Nat → Nat} {i j : Nat} {b : Bool} (h : exB J r s i j = false) (hj : s i ≤ j) (hb : b = true ↔ sem (tmOf J.t) (foI J.l r) j i) : exB J r s i (j + 1) = b := by
 rw [Bool.eq_iff_iff, ex_iff, hb]
 constructor
 ·rintro ⟨q, h1, h2, h3⟩
  by_cases e : q = j
  ·rw [← e]; exact h3
  ·have : exB J r s i j = true := (ex_iff ..).2 ⟨q, h1, by omega, h3⟩
   rw [h] at this; cases this
 ·intro h3
  exact ⟨j, hj, by omega, h3⟩
noncomputable def fillB (J : Jd) (k b a i x : Nat) : Bool := (decide (b ≤ x) || (decide (a ≤ x) && decide (x < i))) && tvB J k x
def updB (g : Nat → Bool) (i : Nat) (v : Bool) (x : Nat) : Bool := if x = i then v else g x
theorem OB.put {w : World} {lo b n i : Nat} {g g' : Nat → Bool} (h : OB w lo b n g) (v : Bool) (hi : i < n) (hv : g' i = v) (hg : ∀ x, x < n → x ≠ i → g' x = g x) : OB (w.setCell ⟨b, i, none⟩ (.bool v)) lo b n g' := by
 have h1 := own_put (k := i) h (.bool v)
 have e : (bl n g).set i (.bool v) = bl n g' := by
  apply List.ext_getElem?
  intro a
  rw [List.getElem?_set, bl_len]
  by_cases ha : a < n
  ·rw [bl_at ha, bl_at ha]
   by_cases e : i = a
   ·subst e
    rw [if_pos rfl, if_pos ha, hv]
   ·rw [if_neg e, hg a ha (fun e2 => e e2.symm)]
  ·rw [List.getElem?_eq_none (l := bl n g') (by rw [bl_len]; omega)]
   by_cases e : i = a
   ·rw [if_pos e, if_neg (by omega)]
   ·rw [if_neg e, List.getElem?_eq_none (by rw [bl_len]; omega)]
 rw [e] at h1
 exact h1
theorem fill_next {J : Jd} {k b a i : Nat} {v : Bool} (h : v = tvB J k i) (hai : a ≤ i) (hib : i < b) (x : Nat) : updB (fillB J k b a i) i v x = fillB J k b a (i + 1) x := by
 unfold updB fillB
 by_cases e : x = i
 ·rw [if_pos e, h, e, decide_eq_false (show ¬ b ≤ i by omega), decide_eq_true hai, decide_eq_true (Nat.lt_succ_self i)]
  rfl
 ·rw [if_neg e]
  have : decide (x < i) = decide (x < i + 1) := decide_eq_decide.2 (by omega)
  rw [this]
theorem fill_all' {J : Jd} {k b a n : Nat} (hab : a ≤ b) (x : Nat) : fillB J k b a b x = fillB J k a n n x := by
 unfold fillB
 have : (decide (b ≤ x) || (decide (a ≤ x) && decide (x < b))) = (decide (a ≤ x) || (decide (n ≤ x) && decide (x < n))) := by
  rw [Bool.eq_iff_iff, Bool.or_eq_true, Bool.or_eq_true, Bool.and_eq_true, Bool.and_eq_true]
  simp only [decide_eq_true_eq]
  omega
 rw [this]
theorem fill_whole (J : Jd) (k n x : Nat) : fillB J k 0 n n x = tvB J k x := by
 unfold fillB
 rw [decide_eq_true (Nat.zero_le x)]
 rfl
set_option maxHeartbeats 8000000 in
set_option maxRecDepth 100000 in
theorem landBack (J : Jd) (w0 : World) (σ : List Value) (k m c : Nat) (nm : ByteArray) (lo hi : Int) (ks : List Int) (K : Option Addr) (w : World) (h : JS J w0 σ w) (hl : Live J k σ w) (hnv : Nv J w0 k ⟨16, nm, lo, hi, ks⟩ K m c) :
  Calls Tryz.prog 46 #[.pointer (some ⟨J.gj, 0, none⟩), .agg #[.int .i64 16, .string nm, .int .i64 lo, .int .i64 hi, .slice K m c]] w (GotNd J w0 k σ w) := by
 have hk := (List.getElem?_eq_some_iff.1 hnv.hk).1
 have hkk : kindN J.l k = 16 := kind_of hnv.hk
 have hk1 : Tree.kidc (kindN J.l k) = 1 := by rw [hkk]; rfl
 have hrr := kid_reg1 h.ml hk (.inr (.inl hkk))
 have hrk := kidN_one h.ml hk hk1
 obtain ⟨f1, f2, f3, f4⟩ := fo_node hnv.hk
 have hfo : foI J.l k = .o 16 lo hi (foI J.l (kidN J.l k 0)) := by rw [foI_one h.ml hk hk1, f1, f3, f4]
 have hs := span_of hnv h.ml rfl
 obtain ⟨i1, hi1, hy0, hy1, hy2⟩ := info_parts infoBl
 obtain ⟨W, hW⟩ : ∃ W, w.alloc (.cells #[.int .i64 16, .string nm, .int .i64 lo, .int .i64 hi, .slice K m c] 37) = W := ⟨_, rfl⟩
 have hbW : Below w.heap.size w W := by rw [← hW]; exact (Below.refl _ _).alloc (Nat.le_refl _) _
 have d0 : W.cell? ⟨w.heap.size, 0, none⟩ = some (.int .i64 16) := by rw [← hW]; exact box_cell 0 _ rfl
 have d1 : W.cell? ⟨w.heap.size, 1, none⟩ = some (.string nm) := by rw [← hW]; exact box_cell 1 _ rfl
 have d2 : W.cell? ⟨w.heap.size, 2, none⟩ = some (.int .i64 lo) := by rw [← hW]; exact box_cell 2 _ rfl
 have d3 : W.cell? ⟨w.heap.size, 3, none⟩ = some (.int .i64 hi) := by rw [← hW]; exact box_cell 3 _ rfl
 have d4 : W.cell? ⟨w.heap.size, 4, none⟩ = some (.slice K m c) := by rw [← hW]; exact box_cell 4 _ rfl
 have HWK := Lib.hid (landWalk J w0 σ k m c 16 lo hi nm ks K W (h.later hbW) (hl.grown (grown_any hbW)) hnv (.inl rfl))
 have HGW := Lib.hid (grown_any (o := J.bt) hbW)
 have HNE := Lib.hid (show w.heap.size ≠ J.bt from by have := h.bt0; omega)
 obtain ⟨r, hr⟩ : ∃ r, kidN J.l k 0 = r := ⟨_, rfl⟩
 rw [hr] at hrr hrk hfo HWK
 have hred : (redE (reI J.l r)).length ≤ 1000 := by have := red_le h.ml r (by omega) hrr; have := h.hl; omega
 have HF := Lib.hid (And.intro hfo (And.intro hs (And.intro hrr (And.intro (show r < J.l.length by omega) hred))))
 have HT := Lib.hid h.jw.tn
 have hn64 := h.hn
 clear h hl hnv hk hkk hk1 hrr hrk f1 f2 f3 f4 hfo hs hr hred hbW
 go_enter Tryz.func46, Tryz.ntmps46
 go_wp2_with fail
 refine HWK.out.mono ?_
 rintro e w1 ⟨σ', gw, B, d, A, vs, rfl, j1, g1, o1, k1⟩
 have HJ1 := Lib.hid j1
 have HK1 := Lib.hid k1
 have HG1 := Lib.hid (grown_tr HGW.out g1)
 have HO1 := Lib.hid o1
 have e2 := cell_grown g1 d2 HNE.out
 have e3 := cell_grown g1 d3 HNE.out
 have HP := Lib.hid (landPast J lo hi w1 j1.jw HF.out.2.1)
 clear j1 k1 g1 o1 d0 d1 d2 d3 d4 HWK
 go_wp2_with fail
 refine HP.out.mono ?_
 rintro e w2 ⟨o, s, t, rfl, hO, hPS, b2⟩
 have HO := Lib.hid hO
 have HPS := Lib.hid hPS
 have HB2 := Lib.hid b2
 obtain ⟨n, hn⟩ : ∃ n, J.n = n := ⟨_, rfl⟩
 have HN := Lib.hid hn
 rw [hn] at hn64 HO HPS ⊢
 have b1 : i1.bytes * n ≤ 281474976710656 := by rw [hy2]; omega
 have b3 : n ≤ maxLen := by have q63 : maxLen = 9223372036854775807 := rfl; omega
 have hni : ((n : Nat) : Int) ≤ 64 := by omega
 clear hO hPS b2 HP hn e2 e3
 go_wp2_with (at_make; refine wpList_make_full _ rfl (.tmp 22) (.tmp 22) 52 rfl w1.heap.size 4 i1 (.bool false) 1 Tryz.underlying52 hi1 hy0 hy1 .i64 .i64 _ _ n rfl rfl rfl rfl b1 b3 HB2.out.size ?_; intro w3 hmade hgr3; rw [made_bools] at hmade)
 have HM := Lib.hid (show OB w3 w1.heap.size w2.heap.size n (fillB J k n n n) from by
  have e : ∀ x, x < n → fillB J k n n n x = upTo 0 (fun _ => true) x := fun x hx => by
   unfold fillB upTo
   rw [decide_eq_false (show ¬ n ≤ x by omega), decide_eq_false (show ¬ x < 0 by omega)]
   rfl
  unfold OB
  rw [bl_congr e, bl_zero]
  exact hmade)
 have HG := Lib.hid (show Below w2.heap.size w2 w3 from ⟨hgr3.os, hgr3.tape, hgr3.output, hgr3.size, fun k hk => hgr3.block k hk (by simp)⟩)
 obtain ⟨R, hR⟩ : ∃ R, w2.heap.size = R := ⟨_, rfl⟩
 have HR := Lib.hid hR
 rw [hR] at HM HG ⊢
 clear hmade hgr3 hR
 go_loopw [8, 9, 10, 11, 12, 13] (fun v _ _ _ _ _ wr => ∃ b : Nat, v = .int .i64 (b : Nat) ∧ b ≤ n ∧ OB wr w1.heap.size R n (fillB J k b n n) ∧ Below R w2 wr) (fun v _ _ _ _ _ _ => (intOf v).toNat)
 case atStart => exact ⟨n, rfl, Nat.le_refl _, HM.out, HG.out⟩
 case round =>
  obtain ⟨b, rfl, hbn, hT, hB⟩ := hrel
  have HTR := Lib.hid hT
  have HB := Lib.hid hB
  by_cases h0 : 0 < b
  ·obtain ⟨y, hy⟩ : ∃ y, b - 1 = y := ⟨_, rfl⟩
   have hyi : ((b : Nat) : Int) - 1 = ((y : Nat) : Int) := by omega
   have hyn : y < n := by omega
   have hS := HO.out.rs.below (show Below w2.heap.size w2 wr from by rw [HR.out]; exact hB)
   obtain ⟨a, ha⟩ : ∃ a, s y = a := ⟨_, rfl⟩
   have hPy := HPS.out y hyn
   rw [ha] at hPy
   have hay : a ≤ y := hPy.1
   have hPa := HPS.out a (by omega)
   obtain ⟨st, hst⟩ : ∃ st, s a = st := ⟨_, rfl⟩
   rw [hst] at hPa
   have hsa : st ≤ a := hPa.1
   have z1 := (hS y hyn).1
   have z2 := (hS a (by omega)).1
   rw [ha] at z1
   rw [hst] at z2
   have hWK := (HK1.out.below (show Below w1.heap.size w1 wr from HB2.out.trans (hB.mono (by have := HB2.out.size; have := HR.out; omega))))
   have HRE := Lib.hid (landReachP J r gw B d A vs st b (b - st) wr hWK HJ1.out.ml HT.out (by rw [HN.out]; exact hn64) HF.out.2.2.2.1 HF.out.2.2.1 HF.out.2.2.2.2 (by omega) (by rw [HN.out]; exact hbn))
   have hyi2 : ((y : Nat) : Int) < ((n : Nat) : Int) := by omega
   have hai : ((a : Nat) : Int) < ((n : Nat) : Int) := by omega
   have HA := Lib.hid (And.intro hy (And.intro ha (And.intro hst (And.intro hay (And.intro hsa (And.intro hbn h0))))))
   have hb0 : (0 : Int) < ((b : Nat) : Int) := by omega
   clear hT hB hS hPy hPa hWK hy ha hst hay hsa hyn
   go_wp2_with fail
   refine HRE.out.mono ?_
   rintro e w4 ⟨Bt, Rr, mt, rfl, t4, b4, m4⟩
   obtain ⟨N, hN⟩ : ∃ N, b - st = N := ⟨_, rfl⟩
   rw [hN] at t4 m4 ⊢
   obtain ⟨L4, hL4⟩ : ∃ L4, wr.heap.size = L4 := ⟨_, rfl⟩
   rw [hL4] at t4
   have hRL : R < L4 := by rw [← hL4]; exact HTR.out.lt.2
   have HT4 := Lib.hid ((HTR.out.below b4).congr (g := fillB J k b a a) (fun x hx => by
    unfold fillB
    rw [show (decide (a ≤ x) && decide (x < a)) = false from by rw [Bool.and_eq_false_iff, decide_eq_false_iff_not, decide_eq_false_iff_not]; omega, show (decide (n ≤ x) && decide (x < n)) = false from by rw [Bool.and_eq_false_iff, decide_eq_false_iff_not, decide_eq_false_iff_not]; omega]))
   have HB4 := Lib.hid (HB.out.trans (b4.mono (by rw [hL4]; omega)))
   have HTB := Lib.hid t4
   have HM4 := Lib.hid (And.intro m4 (And.intro hN hRL))
   clear t4 b4 m4 hN hRL hL4 HRE z1 z2
   go_wp2_with fail
   go_loopw [12, 13] (fun v _ wr2 => ∃ i : Nat, v = .int .i64 (i : Nat) ∧ a ≤ i ∧ i ≤ b ∧ OB wr2 w1.heap.size R n (fillB J k b a i) ∧ Tab wr2 L4 Bt Rr N mt ∧ Below R w2 wr2) (fun v _ _ => b - (intOf v).toNat)
   case atStart => exact ⟨a, rfl, Nat.le_refl _, by have := HA.out; omega, HT4.out, HTB.out, HB4.out⟩
   case round =>
    obtain ⟨i, rfl, hai2, hib, hT5, hTB5, hB5⟩ := hrel
    have HT5 := Lib.hid hT5
    have HTB5 := Lib.hid hTB5
    have HB5 := Lib.hid hB5
    by_cases hlt : i < b
    ·have hin : i < n := by have := HA.out; omega
     obtain ⟨S, hS⟩ : ∃ S, s i = S := ⟨_, rfl⟩
     obtain ⟨T, hT⟩ : ∃ T, t i = T := ⟨_, rfl⟩
     have hPi := HPS.out i hin
     rw [hS, hT] at hPi
     obtain ⟨q1, q2⟩ := (HO.out.rs.below (show Below w2.heap.size w2 _ from by rw [HR.out]; exact hB5)) i hin
     rw [hS] at q1
     have hii : ((i : Nat) : Int) < ((n : Nat) : Int) := by omega
     have hsS : st ≤ S := by
      rw [← HA.out.2.2.1, ← hS]
      exact past_mono (fun x y h1 h2 => time_mono HJ1.out.mt h1 h2) hai2 (by rw [HT.out, HN.out]; exact hin) (HPS.out a (by have := HA.out; omega)) (HPS.out i hin)
     have HI := Lib.hid (And.intro hS (And.intro hT (And.intro hPi (And.intro hin (And.intro hsS (And.intro hai2 hib))))))
     clear hT5 hTB5 hB5 hS hT hPi hsS hai2 hib
     go_wp2_with fail
     go_loopw [13] (fun v wr3 => ∃ j : Nat, v = .int .i64 (j : Nat) ∧ S ≤ j ∧ j ≤ T ∧ OB wr3 w1.heap.size R n (updB (fillB J k b a i) i (exB J r s i j)) ∧ Tab wr3 L4 Bt Rr N mt ∧ Below R w2 wr3) (fun v _ => T - (intOf v).toNat)
     case atStart =>
      refine ⟨S, rfl, Nat.le_refl _, HI.out.2.2.1.2.1, HT5.out.congr (fun x hx => ?_), HTB5.out, HB5.out⟩
      unfold updB
      by_cases e : x = i
      ·rw [if_pos e, ← HI.out.1, ex_none, e]
       unfold fillB
       rw [decide_eq_false (show ¬ b ≤ i by omega), decide_eq_false (Nat.lt_irrefl i), Bool.and_false]
       rfl
      ·rw [if_neg e]
     case round =>
      obtain ⟨j, rfl, hSj, hjT, hT6, hTB6, hB6⟩ := hrel
      have HT6 := Lib.hid hT6
      have HTB6 := Lib.hid hTB6
      have HB6 := Lib.hid hB6
      obtain ⟨q3, q4⟩ := (HO.out.rs.below (show Below w2.heap.size w2 _ from by rw [HR.out]; exact hB6)) i HI.out.2.2.2.1
      rw [HI.out.2.1] at q4
      have hjn : j < 1000 := by have := HI.out.2.2.1.2.2.1; have := HI.out.2.2.2.1; omega
      have hjb : ((j : Nat) : Int) ≤ 1000 := by omega
      have c0 := hT6.rb i HI.out.2.2.2.1
      have e0 : updB (fillB J k b a i) i (exB J r s i j) i = exB J r s i j := if_pos rfl
      rw [e0] at c0
      have f0 := own_fz hT6 i
      clear e0 q1 q2
      by_cases hlj : j < T
      ·have hljd : decide (((j : Nat) : Int) < ((T : Nat) : Int)) = true := decide_eq_true (by omega)
       cases hE : exB J r s i j
       ·rw [hE] at c0
        obtain ⟨x, hx⟩ : ∃ x, j - st = x := ⟨_, rfl⟩
        obtain ⟨y2, hy2'⟩ : ∃ y2, i - st = y2 := ⟨_, rfl⟩
        have hst := HI.out.2.2.2.2.1
        have hai := HI.out.2.2.2.2.2.1
        have hT3 := HI.out.2.2.1.2.2.1
        have hss := HA.out.2.2.2.2.1
        have hNb := HM4.out.2.1
        have hxN : x < N := by omega
        have hyN : y2 < N := by omega
        have hxi : ((j : Nat) : Int) - ((st : Nat) : Int) = ((x : Nat) : Int) := by omega
        have hyi3 : ((i : Nat) : Int) - ((st : Nat) : Int) = ((y2 : Nat) : Int) := by omega
        have hxNi : ((x : Nat) : Int) < ((N : Nat) : Int) := by omega
        have hyNi : ((y2 : Nat) : Int) < ((N : Nat) : Int) := by omega
        have v1 := hTB6.outer hxN
        have v2 := hTB6.inner hxN hyN
        obtain ⟨bm, hbm⟩ : ∃ bm, mt x y2 = bm := ⟨_, rfl⟩
        rw [hbm] at v2
        have hnx : exB J r s i (j + 1) = bm := ex_next hE (by rw [HI.out.1]; exact hSj) (by
         have h9 := HM4.out.1 x y2 hxN hyN
         rw [hbm, show x + st = j by omega, show y2 + st = i by omega] at h9
         exact h9)
        have HX := Lib.hid (And.intro hnx (And.intro hSj hlj))
        clear hT6 hTB6 hB6 hE hx hy2' hbm hnx hSj hjT hst hai hT3 hss hNb hxN hyN
        go_wp2_with fail
        go_roundw
        case rel =>
         refine ⟨j + 1, by simp, by have := HX.out; omega, HX.out.2.2, HT6.out.put bm HI.out.2.2.2.1 (by unfold updB; rw [if_pos rfl, HX.out.1]) (fun x hx hne => by unfold updB; rw [if_neg hne, if_neg hne]), HTB6.out.kept (Below.heap_setCell _ _ _ _ (fun e => absurd (show Bt = R from e) (by have := (HTB6.out.out.lt Bt rfl).1; have := HM4.out.2.2; omega))) (fun z hz => Below.heap_setCell _ _ _ _ (fun e => absurd (show Rr z = R from e) (by have := ((HTB6.out.row z hz).lt (Rr z) rfl).1; have := HM4.out.2.2; omega))), HB6.out.setCell (p := ⟨R, i, none⟩) (Nat.le_refl _) _⟩
        case measure => (show T - (j + 1) < T - j; have := HX.out; omega)
       ·rw [hE] at c0
        have hv : exB J r s i j = tvB J k i := by
         rw [hE]
         symm
         rw [tv_back HT.out (by rw [HN.out]; exact HI.out.2.2.2.1) (HPS.out i HI.out.2.2.2.1) HF.out.1]
         obtain ⟨q, g1, g2, g3⟩ := (ex_iff J r s i j).1 hE
         exact ⟨q, g1, by rw [HI.out.2.1]; omega, g3⟩
        have HX := Lib.hid (And.intro (fill_next (v := exB J r s i j) (b := b) (a := a) hv HI.out.2.2.2.2.2.1 hlt) hlt)
        clear hT6 hTB6 hB6 hv hE
        go_wp2_with fail
        go_roundw
        case rel => exact ⟨i + 1, by simp, by have := HI.out.2.2.2.2.2.1; omega, HX.out.2, HT6.out.congr (fun x _ => HX.out.1 x), HTB6.out, HB6.out⟩
        case measure => (show b - (i + 1) < b - i; have := HX.out.2; omega)
      ·have hljd : decide (((j : Nat) : Int) < ((T : Nat) : Int)) = false := decide_eq_false (by omega)
       obtain rfl : j = T := by omega
       have hv : exB J r s i j = tvB J k i := by
        rw [Bool.eq_iff_iff, ex_iff, tv_back HT.out (by rw [HN.out]; exact HI.out.2.2.2.1) (HPS.out i HI.out.2.2.2.1) HF.out.1, HI.out.2.1]
       have HX := Lib.hid (And.intro (fill_next (v := exB J r s i j) (b := b) (a := a) hv HI.out.2.2.2.2.2.1 hlt) hlt)
       clear hT6 hTB6 hB6 hv
       go_wp2_with fail
       go_roundw
       case rel => exact ⟨i + 1, by simp, by have := HI.out.2.2.2.2.2.1; omega, HX.out.2, HT6.out.congr (fun x _ => HX.out.1 x), HTB6.out, HB6.out⟩
       case measure => (show b - (i + 1) < b - i; have := HX.out.2; omega)
    ·obtain rfl : i = b := by omega
     clear hT5 hTB5 hB5
     go_wp2_with fail
     go_roundw
     case rel => exact ⟨a, rfl, by have := HA.out; omega, HT5.out.congr (fun x _ => fill_all' hai2 x), HB5.out⟩
     case measure => (show a < i; have := HA.out; omega)
  ·obtain rfl : b = 0 := by omega
   clear hT hB
   go_wp2_with fail
   go_ret
   refine nd_fin HJ1.out HG1.out HO1.out ⟨R, by rw [HN.out]; rfl, ?_, HB2.out.trans (HB.out.mono (by have := HB2.out.size; have := HR.out; omega))⟩ (fun p hp => rfl)
   rw [HN.out]
   exact HTR.out.congr (fun x _ => fill_whole J k n x)
end Go.Proofs.YtdbgaccnejffpaaGreatDoor.Sat

namespace Go.Proofs.YtdbgaccnejffpaaGreatDoor.Sat
open Go.RowKit Go.Proofs.YtdbgaccnejffpaaGreatDoor.Ints Go.Proofs.YtdbgaccnejffpaaGreatDoor.Mem Go.Proofs.YtdbgaccnejffpaaGreatDoor.Src Go.Proofs.YtdbgaccnejffpaaGreatDoor.Paths Go.Proofs.YtdbgaccnejffpaaGreatDoor.Late Go.Proofs.YtdbgaccnejffpaaGreatDoor.Trace
def RdB (w : World) (V : Option Addr) (n : Nat) (g : Nat → Bool) : Prop := 0 < n → ∃ b o, V = some ⟨b, o, none⟩ ∧ ∀ q, q < n → w.cell? ⟨b, o + q, none⟩ = some (.bool (g q))
set_option maxHeartbeats 4000000 in
set_option maxRecDepth 100000 in
theorem landIndexB (V : Option Addr) (n c : Nat) (g : Nat → Bool) (w : World) (h : RdB w V n g) (hn : n ≤ 1000) :
  Calls Tryz.prog 85 #[.slice V n c, .bool true] w fun e w' => ∃ r : Int, e = .returned (.int .i64 r) ∧ decide (0 ≤ r) = (List.range n).any g ∧ w' = w := by
 have H := Lib.hid h
 clear h
 go_enter Tryz.func85, Tryz.ntmps85
 go_wp2_with fail
 go_loopw [5, 8] (fun _ v wr => ∃ i : Nat, v = .int .i64 (i : Nat) ∧ i ≤ n ∧ Hid (∀ j, j < i → g j = false) ∧ wr = w) (fun _ v _ => n - (intOf v).toNat)
 case atStart => exact ⟨0, rfl, Nat.zero_le _, Lib.hid (fun j hj => absurd hj (Nat.not_lt_zero _)), rfl⟩
 case round =>
  obtain ⟨i, rfl, hin, hz, rfl⟩ := hrel
  by_cases hlt : i < n
  ·obtain ⟨b, o, rfl, hc⟩ := H.out (by omega)
   have x1 := hc i hlt
   have hii : ((i : Nat) : Int) < ((n : Nat) : Int) := by omega
   have hi1000 : ((i : Nat) : Int) ≤ 1000 := by omega
   clear hc
   cases hg : g i
   ·rw [hg] at x1
    have HG := Lib.hid hg
    clear hg
    go_wp2_with fail
    go_roundw
    case rel => exact ⟨i + 1, by simp, by omega, Lib.hid (fun j hj => by
     by_cases e : j = i
     ·rw [e]; exact HG.out
     ·exact hz.out j (by omega)), by first | rfl | trivial⟩
    case measure => (show n - (i + 1) < n - i; omega)
   ·rw [hg] at x1
    have HG := Lib.hid (show decide (0 ≤ ((i : Nat) : Int)) = (List.range n).any g from by
     rw [decide_eq_true (by omega)]
     symm
     rw [List.any_eq_true]
     exact ⟨i, List.mem_range.2 hlt, hg⟩)
    clear hg
    go_wp2_with fail
    go_ret
    exact ⟨_, rfl, HG.out, rfl⟩
  ·have HG := Lib.hid (show decide (0 ≤ (-1 : Int)) = (List.range n).any g from by
    rw [decide_eq_false (by omega)]
    symm
    rw [List.any_eq_false]
    intro j hj
    rw [hz.out j (by have := List.mem_range.1 hj; omega)]
    decide)
   go_wp2_with fail
   go_ret
   exact ⟨_, rfl, HG.out, rfl⟩
set_option maxHeartbeats 4000000 in
set_option maxRecDepth 100000 in
theorem landContainsB (V : Option Addr) (n c : Nat) (g : Nat → Bool) (w : World) (h : RdB w V n g) (hn : n ≤ 1000) :
  Calls Tryz.prog 71 #[.slice V n c, .bool true] w fun e w' => e = .returned (.bool ((List.range n).any g)) ∧ w' = w := by
 have HI := Lib.hid (landIndexB V n c g w h hn)
 clear h
 go_enter Tryz.func71, Tryz.ntmps71
 go_wp2_with fail
 refine HI.out.mono ?_
 rintro e w1 ⟨r, rfl, hr, rfl⟩
 have HR := Lib.hid hr
 clear hr
 go_wp2_with fail
 go_ret
 exact ⟨by rw [← HR.out]; rfl, rfl⟩
set_option maxHeartbeats 8000000 in
set_option maxRecDepth 100000 in
theorem landFore (J : Jd) (w0 : World) (σ : List Value) (k m c : Nat) (nm : ByteArray) (lo hi : Int) (ks : List Int) (K : Option Addr) (w : World) (h : JS J w0 σ w) (hl : Live J k σ w) (hnv : Nv J w0 k ⟨17, nm, lo, hi, ks⟩ K m c) :
  Calls Tryz.prog 47 #[.pointer (some ⟨J.gj, 0, none⟩), .agg #[.int .i64 17, .string nm, .int .i64 lo, .int .i64 hi, .slice K m c]] w (GotNd J w0 k σ w) := by
 have hk := (List.getElem?_eq_some_iff.1 hnv.hk).1
 have hkk : kindN J.l k = 17 := kind_of hnv.hk
 have hk1 : Tree.kidc (kindN J.l k) = 1 := by rw [hkk]; rfl
 have hrr := kid_reg1 h.ml hk (.inr (.inr hkk))
 have hrk := kidN_one h.ml hk hk1
 obtain ⟨f1, f2, f3, f4⟩ := fo_node hnv.hk
 have hfo : foI J.l k = .o 17 lo hi (foI J.l (kidN J.l k 0)) := by rw [foI_one h.ml hk hk1, f1, f3, f4]
 have hs := span_of hnv h.ml rfl
 obtain ⟨i1, hi1, hy0, hy1, hy2⟩ := info_parts infoBl
 obtain ⟨W, hW⟩ : ∃ W, w.alloc (.cells #[.int .i64 17, .string nm, .int .i64 lo, .int .i64 hi, .slice K m c] 37) = W := ⟨_, rfl⟩
 have hbW : Below w.heap.size w W := by rw [← hW]; exact (Below.refl _ _).alloc (Nat.le_refl _) _
 have d0 : W.cell? ⟨w.heap.size, 0, none⟩ = some (.int .i64 17) := by rw [← hW]; exact box_cell 0 _ rfl
 have d1 : W.cell? ⟨w.heap.size, 1, none⟩ = some (.string nm) := by rw [← hW]; exact box_cell 1 _ rfl
 have d2 : W.cell? ⟨w.heap.size, 2, none⟩ = some (.int .i64 lo) := by rw [← hW]; exact box_cell 2 _ rfl
 have d3 : W.cell? ⟨w.heap.size, 3, none⟩ = some (.int .i64 hi) := by rw [← hW]; exact box_cell 3 _ rfl
 have d4 : W.cell? ⟨w.heap.size, 4, none⟩ = some (.slice K m c) := by rw [← hW]; exact box_cell 4 _ rfl
 have HWK := Lib.hid (landWalk J w0 σ k m c 17 lo hi nm ks K W (h.later hbW) (hl.grown (grown_any hbW)) hnv (.inr rfl))
 have HGW := Lib.hid (grown_any (o := J.bt) hbW)
 have HNE := Lib.hid (show w.heap.size ≠ J.bt from by have := h.bt0; omega)
 obtain ⟨r, hr⟩ : ∃ r, kidN J.l k 0 = r := ⟨_, rfl⟩
 rw [hr] at hrr hrk hfo HWK
 have hred : (redE (reI J.l r)).length ≤ 1000 := by have := red_le h.ml r (by omega) hrr; have := h.hl; omega
 have HF := Lib.hid (And.intro hfo (And.intro hs (And.intro hrr (And.intro (show r < J.l.length by omega) hred))))
 have HT := Lib.hid h.jw.tn
 have hn64 := h.hn
 clear h hl hnv hk hkk hk1 hrr hrk f1 f2 f3 f4 hfo hs hr hred hbW
 go_enter Tryz.func47, Tryz.ntmps47
 go_wp2_with fail
 refine HWK.out.mono ?_
 rintro e w1 ⟨σ', gw, B, d, A, vs, rfl, j1, g1, o1, k1⟩
 have HJ1 := Lib.hid j1
 have HK1 := Lib.hid k1
 have HG1 := Lib.hid (grown_tr HGW.out g1)
 have HO1 := Lib.hid o1
 have e2 := cell_grown g1 d2 HNE.out
 have e3 := cell_grown g1 d3 HNE.out
 have HP := Lib.hid (landFuture J lo hi w1 j1.jw HF.out.2.1)
 clear j1 k1 g1 o1 d0 d1 d2 d3 d4 HWK
 go_wp2_with fail
 refine HP.out.mono ?_
 rintro e w2 ⟨o, s, t, rfl, hO, hPS, b2⟩
 have HO := Lib.hid hO
 have HPS := Lib.hid hPS
 have HB2 := Lib.hid b2
 obtain ⟨n, hn⟩ : ∃ n, J.n = n := ⟨_, rfl⟩
 have HN := Lib.hid hn
 rw [hn] at hn64 HO HPS ⊢
 have b1 : i1.bytes * n ≤ 281474976710656 := by rw [hy2]; omega
 have b3 : n ≤ maxLen := by have q63 : maxLen = 9223372036854775807 := rfl; omega
 have hni : ((n : Nat) : Int) ≤ 64 := by omega
 clear hO hPS b2 HP hn e2 e3
 go_wp2_with (at_make; refine wpList_make_full _ rfl (.tmp 20) (.tmp 20) 52 rfl w1.heap.size 4 i1 (.bool false) 1 Tryz.underlying52 hi1 hy0 hy1 .i64 .i64 _ _ n rfl rfl rfl rfl b1 b3 HB2.out.size ?_; intro w3 hmade hgr3; rw [made_bools] at hmade)
 have HM := Lib.hid (show OB w3 w1.heap.size w2.heap.size n (upTo 0 (tvB J k)) from by
  unfold OB
  rw [bl_zero]
  exact hmade)
 have HG := Lib.hid (show Below w2.heap.size w2 w3 from ⟨hgr3.os, hgr3.tape, hgr3.output, hgr3.size, fun k hk => hgr3.block k hk (by simp)⟩)
 obtain ⟨R, hR⟩ : ∃ R, w2.heap.size = R := ⟨_, rfl⟩
 have HR := Lib.hid hR
 rw [hR] at HM HG ⊢
 clear hmade hgr3 hR
 go_loopw [8, 9, 10, 11] (fun v _ _ _ wr => ∃ a : Nat, v = .int .i64 (a : Nat) ∧ a ≤ n ∧ OB wr w1.heap.size R n (upTo a (tvB J k)) ∧ Below R w2 wr) (fun v _ _ _ _ => n - (intOf v).toNat)
 case atStart => exact ⟨0, rfl, Nat.zero_le _, HM.out, HG.out⟩
 case round =>
  obtain ⟨a, rfl, han, hT, hB⟩ := hrel
  have HTR := Lib.hid hT
  have HB := Lib.hid hB
  by_cases h0 : a < n
  ·have hS := HO.out.rs.below (show Below w2.heap.size w2 wr from by rw [HR.out]; exact hB)
   obtain ⟨b, hb⟩ : ∃ b, t a = b := ⟨_, rfl⟩
   have hPa := HPS.out a h0
   rw [hb] at hPa
   have hab : a < b := hPa.2.2.1
   have hbn : b ≤ n := by have := hPa.2.2.2.1; rw [HT.out, HN.out] at this; exact this
   obtain ⟨y, hy⟩ : ∃ y, b - 1 = y := ⟨_, rfl⟩
   have hyi : ((b : Nat) : Int) - 1 = ((y : Nat) : Int) := by omega
   have hPy := HPS.out y (by omega)
   obtain ⟨z, hz⟩ : ∃ z, t y = z := ⟨_, rfl⟩
   rw [hz] at hPy
   have hyz : y < z := hPy.2.2.1
   have hzn : z ≤ n := by have := hPy.2.2.2.1; rw [HT.out, HN.out] at this; exact this
   have z1 := (hS a h0).2
   have z2 := (hS y (by omega)).2
   rw [hb] at z1
   rw [hz] at z2
   have hWK := (HK1.out.below (show Below w1.heap.size w1 wr from HB2.out.trans (hB.mono (by have := HB2.out.size; have := HR.out; omega))))
   have HRE := Lib.hid (landReachP J r gw B d A vs a z (z - a) wr hWK HJ1.out.ml HT.out (by rw [HN.out]; exact hn64) HF.out.2.2.2.1 HF.out.2.2.1 HF.out.2.2.2.2 (by omega) (by rw [HN.out]; exact hzn))
   have hyi2 : ((y : Nat) : Int) < ((n : Nat) : Int) := by omega
   have hai : ((a : Nat) : Int) < ((n : Nat) : Int) := by omega
   have HA := Lib.hid (And.intro hy (And.intro hz (And.intro hab (And.intro hbn (And.intro hyz (And.intro hzn h0))))))
   clear hT hB hS hPy hPa hWK hy hz hb hab hyz
   go_wp2_with fail
   refine HRE.out.mono ?_
   rintro e w4 ⟨Bt, Rr, mt, rfl, t4, b4, m4⟩
   obtain ⟨N, hNN⟩ : ∃ N, z - a = N := ⟨_, rfl⟩
   rw [hNN] at t4 m4 ⊢
   obtain ⟨L4, hL4⟩ : ∃ L4, wr.heap.size = L4 := ⟨_, rfl⟩
   rw [hL4] at t4
   have hRL : R < L4 := by rw [← hL4]; exact HTR.out.lt.2
   have HT4 := Lib.hid (HTR.out.below b4)
   have HB4 := Lib.hid (HB.out.trans (b4.mono (by rw [hL4]; omega)))
   have HTB := Lib.hid t4
   have HM4 := Lib.hid (And.intro m4 (And.intro hNN hRL))
   clear t4 b4 m4 hNN hRL hL4 HRE z1 z2
   go_wp2_with fail
   go_loopw [11] (fun v wr2 => ∃ i : Nat, v = .int .i64 (i : Nat) ∧ a ≤ i ∧ i ≤ b ∧ OB wr2 w1.heap.size R n (upTo i (tvB J k)) ∧ Tab wr2 L4 Bt Rr N mt ∧ Below R w2 wr2) (fun v _ => b - (intOf v).toNat)
   case atStart => exact ⟨a, rfl, Nat.le_refl _, by have := HA.out; omega, HT4.out, HTB.out, HB4.out⟩
   case round =>
    obtain ⟨i, rfl, hai2, hib, hT5, hTB5, hB5⟩ := hrel
    have HT5 := Lib.hid hT5
    have HTB5 := Lib.hid hTB5
    have HB5 := Lib.hid hB5
    by_cases hlt : i < b
    ·have hin : i < n := by have := HA.out; omega
     obtain ⟨S, hS⟩ : ∃ S, s i = S := ⟨_, rfl⟩
     obtain ⟨T, hT⟩ : ∃ T, t i = T := ⟨_, rfl⟩
     have hPi := HPS.out i hin
     have hTz : T ≤ z := by
      rw [← HA.out.2.1, ← hT]
      exact fut_mono (fun x y h1 h2 => time_mono HJ1.out.mt h1 h2) (show i ≤ y by have := HA.out.1; omega) (by rw [HT.out, HN.out]; have := HA.out; omega) (HPS.out i hin) (HPS.out y (by have := HA.out; omega))
     rw [hS, hT] at hPi
     obtain ⟨q1, q2⟩ := (HO.out.rs.below (show Below w2.heap.size w2 _ from by rw [HR.out]; exact hB5)) i hin
     rw [hS] at q1
     rw [hT] at q2
     have hii : ((i : Nat) : Int) < ((n : Nat) : Int) := by omega
     have hiS := hPi.1
     have hST := hPi.2.1
     have haz := HA.out.2.2.1
     have hzn2 := HA.out.2.2.2.2.2.1
     obtain ⟨x, hx⟩ : ∃ x, i - a = x := ⟨_, rfl⟩
     obtain ⟨S2, hS2⟩ : ∃ x, S - a = x := ⟨_, rfl⟩
     obtain ⟨T2, hT2⟩ : ∃ x, T - a = x := ⟨_, rfl⟩
     have hN2 := HM4.out.2.1
     have hxN : x < N := by have := HA.out.1; have := HA.out.2.2.2.2.1; omega
     have hT2N : T2 ≤ N := by omega
     have hST2 : S2 ≤ T2 := by omega
     have w1' : IntKind.i64.wrap (((i : Nat) : Int) - ((a : Nat) : Int)) = ((x : Nat) : Int) := by rw [show ((i : Nat) : Int) - ((a : Nat) : Int) = ((x : Nat) : Int) by omega]; exact wrap_small _ (by omega)
     have w2' : IntKind.i64.wrap (((S : Nat) : Int) - ((a : Nat) : Int)) = ((S2 : Nat) : Int) := by rw [show ((S : Nat) : Int) - ((a : Nat) : Int) = ((S2 : Nat) : Int) by omega]; exact wrap_small _ (by omega)
     have w3' : IntKind.i64.wrap (((T : Nat) : Int) - ((a : Nat) : Int)) = ((T2 : Nat) : Int) := by rw [show ((T : Nat) : Int) - ((a : Nat) : Int) = ((T2 : Nat) : Int) by omega]; exact wrap_small _ (by omega)
     have v1 := hTB5.outer hxN
     obtain ⟨V, hV⟩ : ∃ V, Mem.fromAddr (some ⟨Rr x, 0, none⟩) N S2 1 = V := ⟨_, rfl⟩
     have hsl := fun W => slice_midB (P := Tryz.prog) 52 (by kernel_rfl) 1 (by kernel_rfl) (some ⟨Rr x, 0, none⟩) N N S2 T2 hST2 hT2N W
     rw [hV] at hsl
     obtain ⟨D, hD⟩ : ∃ D, T2 - S2 = D := ⟨_, rfl⟩
     rw [hD] at hsl
     have HC := Lib.hid (fun W (hr : ∀ q, q < N → W.cell? ⟨Rr x, q, none⟩ = some (.bool (mt x q))) => landContainsB V D (N - S2) (fun q => mt x (S2 + q)) W (fun h9 => by
      refine ⟨Rr x, S2, ?_, fun q hq => hr (S2 + q) (by omega)⟩
      rw [← hV]
      unfold Mem.fromAddr
      rw [if_neg (by omega)]
      show some ((⟨Rr x, 0, none⟩ : Addr).add (S2 * 1)) = _
      rw [Addr.add_lit, Nat.zero_add, Nat.mul_one]) (by omega))
     have hcv : (List.range D).any (fun q => mt x (S2 + q)) = tvB J k i := by
      rw [Bool.eq_iff_iff, List.any_eq_true, tv_fore HT.out (by rw [HN.out]; exact hin) (HPS.out i hin) HF.out.1, hS, hT]
      constructor
      ·rintro ⟨q, h1, h2⟩
       have h1 := List.mem_range.1 h1
       have h9 := (HM4.out.1 x (S2 + q) hxN (by omega)).1 h2
       rw [show x + a = i by omega] at h9
       exact ⟨S2 + q + a, by omega, by omega, h9⟩
      ·rintro ⟨q, h1, h2, h3⟩
       refine ⟨q - S, List.mem_range.2 (by omega), (HM4.out.1 x (S2 + (q - S)) hxN (by omega)).2 ?_⟩
       rw [show x + a = i by omega, show S2 + (q - S) + a = q by omega]
       exact h3
     rw [hcv] at HC
     have hrw := fun q (hq : q < N) => hTB5.inner hxN hq
     have HCW := Lib.hid (HC.out wr.drew hrw)
     have c0 := hT5.rb i hin
     have f0 := own_fz hT5 i
     have hxi : ((x : Nat) : Int) < ((N : Nat) : Int) := by omega
     have hx0 : (0 : Int) ≤ ((x : Nat) : Int) := by omega
     have HX := Lib.hid (And.intro hlt (And.intro hin (And.intro hai2 hib)))
     clear hT5 hTB5 hB5 hPi hTz hS hT hiS hST haz hzn2 hx hS2 hT2 hN2 hxN hT2N hST2 hV hD hcv hrw HC hin hai2 hib
     go_wp2_with fail
     refine Late.drew [25] (S := fun V => V.cell? ⟨Bt, x, none⟩ = some (.slice (some ⟨Rr x, 0, none⟩) N N) ∧ V.cell? ⟨o, i * 2, none⟩ = some (.int .i64 ((S : Nat) : Int)) ∧ V.cell? ⟨o, i * 2 + 1, none⟩ = some (.int .i64 ((T : Nat) : Int))) (by kernel_rfl) ⟨v1, q1, q2⟩ (fun hHeld => ?_)
     refine ltOp 0 hHeld ?_
     refine ltOp 1 hHeld ?_
     refine ltOp 2 hHeld ?_
     refine ltOp 3 hHeld ?_
     refine ltOp 4 hHeld ?_
     refine ltOp 5 hHeld ?_
     refine ltOp 6 hHeld ?_
     refine ltOp 7 hHeld ?_
     refine ltOp 8 hHeld ?_
     refine ltOp 9 hHeld ?_
     refine ltOp 10 hHeld ?_
     refine ltOp 11 hHeld ?_
     refine ltOp 12 hHeld ?_
     refine ltOp 13 hHeld ?_
     refine ltOp 14 hHeld ?_
     refine ltOp 15 hHeld ?_
     refine ltOp 16 hHeld ?_
     refine ltOp 17 hHeld ?_
     refine ltOp 18 hHeld ?_
     refine ltOp 19 hHeld ?_
     refine ltOp 20 hHeld ?_
     refine ltOp 21 hHeld ?_
     refine ltOp 22 hHeld ?_
     refine ltCall 23 (fun Kt hKt => ?_)
     go_simp
     (go_at_call 71; refine HCW.out.mono ?_; rintro e w5 ⟨rfl, rfl⟩)
     refine hKt.out _ _ ?_ (fun hT => ?_)
     ·(exact ⟨v1, q1, q2⟩)
     clear hKt Kt hHeld
     have hHeld := hT
     clear hT
     try simp only [Act.put, tkA, tkB, tkC]
     refine ltOp 24 hHeld ?_
     refine ltLast 25 (fun Kt hKt => ?_)
     go_simp
     refine hKt.out _ _ trivial (fun hT => ?_)
     clear hKt Kt hHeld
     have hHeld := hT
     clear hT
     try simp only [Act.put, tkA, tkB, tkC]
     refine wpAnyH_done (by kernel_rfl) ?_ _
     clear hHeld
     go_wp2_with fail
     go_roundw
     case rel =>
      refine ⟨i + 1, by simp, by have := HX.out; omega, HX.out.1, ?_, HTB5.out.kept (Below.heap_setCell _ _ _ _ (fun e => absurd (show Bt = R from e) (by have := (HTB5.out.out.lt Bt rfl).1; have := HM4.out.2.2; omega))) (fun z hz => Below.heap_setCell _ _ _ _ (fun e => absurd (show Rr z = R from e) (by have := ((HTB5.out.row z hz).lt (Rr z) rfl).1; have := HM4.out.2.2; omega))), (HB5.out.setCell (p := ⟨R, i, none⟩) (Nat.le_refl _) _).drew⟩
      have h1 := own_put (k := i) HT5.out (.bool (tvB J k i))
      rw [bl_set (tvB J k) HX.out.2.1 rfl] at h1
      exact h1
     case measure => (show b - (i + 1) < b - i; have := HX.out; omega)
    ·obtain rfl : i = b := by omega
     clear hT5 hTB5 hB5
     go_wp2_with fail
     go_roundw
     case rel => exact ⟨i, rfl, by have := HA.out; omega, HT5.out, HB5.out⟩
     case measure => (show n - i < n - a; have := HA.out; omega)
  ·obtain rfl : a = n := by omega
   clear hT hB
   go_wp2_with fail
   go_ret
   refine nd_fin HJ1.out HG1.out HO1.out ⟨R, by rw [HN.out]; rfl, ?_, HB2.out.trans (HB.out.mono (by have := HB2.out.size; have := HR.out; omega))⟩ (fun p hp => rfl)
   rw [HN.out]
   have h9 := HTR.out
   unfold OB at h9
   rw [bl_full] at h9
   exact h9
end Go.Proofs.YtdbgaccnejffpaaGreatDoor.Sat
