/-
  The landed past and future (stage 15): each point's stretch. By an AI agent.
-/
import Derived.Test.YtdbgaccnejffpaaGreatDoorGSatDual1
import Derived.Test.YtdbgaccnejffpaaGreatDoorGSatDual17
namespace Go.Proofs.YtdbgaccnejffpaaGreatDoor.Sat
open Go.RowKit Go.Proofs.YtdbgaccnejffpaaGreatDoor.Ints Go.Proofs.YtdbgaccnejffpaaGreatDoor.Mem Go.Proofs.YtdbgaccnejffpaaGreatDoor.Src Go.Proofs.YtdbgaccnejffpaaGreatDoor.Paths Go.Proofs.YtdbgaccnejffpaaGreatDoor.Late Go.Proofs.YtdbgaccnejffpaaGreatDoor.Trace
theorem enterP1 : ∀ args w, (callFunc 64 args).run Tryz.prog w = .ok (.enter 64 args) w := enters_of Tryz.func64 (by kernel_rfl) rfl
theorem enterP2 : ∀ args w, (callFunc 66 args).run Tryz.prog w = .ok (.enter 66 args) w := enters_of Tryz.func66 (by kernel_rfl) rfl
theorem enterF1 : ∀ args w, (callFunc 67 args).run Tryz.prog w = .ok (.enter 67 args) w := enters_of Tryz.func67 (by kernel_rfl) rfl
theorem enterF2 : ∀ args w, (callFunc 68 args).run Tryz.prog w = .ok (.enter 68 args) w := enters_of Tryz.func68 (by kernel_rfl) rfl
structure Bxs (J : Jd) (lo hi : Int) (bs bx : Nat) (W : World) : Prop where
 jw : JW J W
 s0 : W.cell? ⟨bs, 0, none⟩ = some (.int .i64 lo)
 s1 : W.cell? ⟨bs, 1, none⟩ = some (.int .i64 hi)
 x0 : W.cell? ⟨bx, 0, none⟩ = some (.pointer (some ⟨J.gj, 0, none⟩))
theorem Bxs.below {J : Jd} {lo hi : Int} {bs bx : Nat} {W W' : World} (h : Bxs J lo hi bs bx W) (hb : Below W.heap.size W W') : Bxs J lo hi bs bx W' := ⟨h.jw.below hb, below_cell hb h.s0, below_cell hb h.s1, below_cell hb h.x0⟩
theorem searchP1 (J : Jd) (lo hi : Int) (bs bx bi i : Nat) (w : World) (h : Bxs J lo hi bs bx w) (hs : Ival.mayS lo hi = true) (hi0 : w.cell? ⟨bi, 0, none⟩ = some (.int .i64 ((i : Nat) : Int))) (hin : i < J.n) :
  Calls Tryz.prog 63 #[.int .i64 ((i : Nat) : Int), .func (.func 64) #[] #[.pointer (some ⟨bs, 0, none⟩), .pointer (some ⟨bx, 0, none⟩), .pointer (some ⟨bi, 0, none⟩)]] w fun e w' => ∃ p, e = .returned (.int .i64 (p : Nat)) ∧ p ≤ i ∧
   (∀ j, j < p → decide (0 ≤ Ival.classS lo hi ((tmOf J.t).tm i - (tmOf J.t).tm j)) = false) ∧ (∀ j, p ≤ j → j < i → decide (0 ≤ Ival.classS lo hi ((tmOf J.t).tm i - (tmOf J.t).tm j)) = true) ∧ Below w.heap.size w w' := by
 refine landSearch i _ _ (fun j => decide (0 ≤ Ival.classS lo hi ((tmOf J.t).tm i - (tmOf J.t).tm j))) w enterP1 (fun j hj W hb => ?_) (by have := h.jw.hn; omega) (fun a b hab hb h1 => ?_)
 ·have hB := h.below hb
  exact past1 J bs bx bi i j lo hi W hB.jw hB.s0 hB.s1 hB.x0 (below_cell hb hi0) (by omega) hin
 ·have h1 := (class_in hs _).1 (of_decide_eq_true h1)
  refine decide_eq_true ((class_in hs _).2 (h1.imp id fun h1 => ?_))
  have := time_mono h.jw.mt hab (show b < J.t.events.length by rw [h.jw.tr.elen]; omega)
  omega
theorem searchP2 (J : Jd) (lo hi : Int) (bs bx bf bi F i m : Nat) (w : World) (h : Bxs J lo hi bs bx w) (hs : Ival.mayS lo hi = true) (hf0 : w.cell? ⟨bf, 0, none⟩ = some (.int .i64 ((F : Nat) : Int))) (hi0 : w.cell? ⟨bi, 0, none⟩ = some (.int .i64 ((i : Nat) : Int))) (hin : i < J.n) (hF : F ≤ i) (hm : i + 1 - F = m)
  (h2 : ∀ j, F ≤ j → j ≤ i → (hi = -1 ∨ (((tmOf J.t).tm i - (tmOf J.t).tm j : Nat) : Int) ≤ hi)) :
  Calls Tryz.prog 63 #[.int .i64 ((m : Nat) : Int), .func (.func 66) #[] #[.pointer (some ⟨bs, 0, none⟩), .pointer (some ⟨bx, 0, none⟩), .pointer (some ⟨bf, 0, none⟩), .pointer (some ⟨bi, 0, none⟩)]] w fun e w' => ∃ p, e = .returned (.int .i64 (p : Nat)) ∧ p ≤ m ∧
   (∀ k, k < p → (!(Ival.hasS lo hi ((tmOf J.t).tm i - (tmOf J.t).tm (F + k)))) = false) ∧ (∀ k, p ≤ k → k < m → (!(Ival.hasS lo hi ((tmOf J.t).tm i - (tmOf J.t).tm (F + k)))) = true) ∧ Below w.heap.size w w' := by
 refine landSearch m _ _ (fun k => !(Ival.hasS lo hi ((tmOf J.t).tm i - (tmOf J.t).tm (F + k)))) w enterP2 (fun k hk W hb => ?_) (by have := h.jw.hn; omega) (fun a b hab hb h1 => ?_)
 ·have hB := h.below hb
  exact past2 J bs bx bf bi F i k (F + k) lo hi W hB.jw hB.s0 hB.s1 hB.x0 (below_cell hb hf0) (below_cell hb hi0) rfl (by omega) hin
 ·have h1 : Ival.hasS lo hi ((tmOf J.t).tm i - (tmOf J.t).tm (F + a)) = false := by simpa using h1
  show (!(Ival.hasS lo hi ((tmOf J.t).tm i - (tmOf J.t).tm (F + b)))) = true
  rw [Bool.not_eq_true', Bool.eq_false_iff, Ne, has_in hs] at *
  intro h3
  refine h1 ⟨?_, h2 (F + a) (by omega) (by omega)⟩
  have := time_mono h.jw.mt (show F + a ≤ F + b by omega) (show F + b < J.t.events.length by rw [h.jw.tr.elen]; omega)
  omega
theorem searchF1 (J : Jd) (lo hi : Int) (bs bx bi i m : Nat) (w : World) (h : Bxs J lo hi bs bx w) (hs : Ival.mayS lo hi = true) (hi0 : w.cell? ⟨bi, 0, none⟩ = some (.int .i64 ((i : Nat) : Int))) (hin : i < J.n) (hm : J.n - i = m) :
  Calls Tryz.prog 63 #[.int .i64 ((m : Nat) : Int), .func (.func 67) #[] #[.pointer (some ⟨bs, 0, none⟩), .pointer (some ⟨bx, 0, none⟩), .pointer (some ⟨bi, 0, none⟩)]] w fun e w' => ∃ p, e = .returned (.int .i64 (p : Nat)) ∧ p ≤ m ∧
   (∀ k, k < p → decide (Ival.classS lo hi ((tmOf J.t).tm (i + k) - (tmOf J.t).tm i) < 0) = false) ∧ (∀ k, p ≤ k → k < m → decide (Ival.classS lo hi ((tmOf J.t).tm (i + k) - (tmOf J.t).tm i) < 0) = true) ∧ Below w.heap.size w w' := by
 refine landSearch m _ _ (fun k => decide (Ival.classS lo hi ((tmOf J.t).tm (i + k) - (tmOf J.t).tm i) < 0)) w enterF1 (fun k hk W hb => ?_) (by have := h.jw.hn; omega) (fun a b hab hb h1 => ?_)
 ·have hB := h.below hb
  exact fut1 J bs bx bi i k (i + k) lo hi W hB.jw hB.s0 hB.s1 hB.x0 (below_cell hb hi0) rfl (by omega)
 ·have h1 := of_decide_eq_true h1
  refine decide_eq_true (Int.not_le.1 fun h3 => ?_)
  have h3 := (class_in hs _).1 h3
  have h4 := mt (class_in hs ((tmOf J.t).tm (i + a) - (tmOf J.t).tm i)).2 (by omega)
  have := time_mono h.jw.mt (show i + a ≤ i + b by omega) (show i + b < J.t.events.length by rw [h.jw.tr.elen]; omega)
  omega
theorem searchF2 (J : Jd) (lo hi : Int) (bs bx bi i m : Nat) (w : World) (h : Bxs J lo hi bs bx w) (hs : Ival.mayS lo hi = true) (hi0 : w.cell? ⟨bi, 0, none⟩ = some (.int .i64 ((i : Nat) : Int))) (hin : i < J.n) (hm : m ≤ J.n - i)
  (h2 : ∀ k, k < m → (hi = -1 ∨ (((tmOf J.t).tm (i + k) - (tmOf J.t).tm i : Nat) : Int) ≤ hi)) :
  Calls Tryz.prog 63 #[.int .i64 ((m : Nat) : Int), .func (.func 68) #[] #[.pointer (some ⟨bs, 0, none⟩), .pointer (some ⟨bx, 0, none⟩), .pointer (some ⟨bi, 0, none⟩)]] w fun e w' => ∃ p, e = .returned (.int .i64 (p : Nat)) ∧ p ≤ m ∧
   (∀ k, k < p → Ival.hasS lo hi ((tmOf J.t).tm (i + k) - (tmOf J.t).tm i) = false) ∧ (∀ k, p ≤ k → k < m → Ival.hasS lo hi ((tmOf J.t).tm (i + k) - (tmOf J.t).tm i) = true) ∧ Below w.heap.size w w' := by
 refine landSearch m _ _ (fun k => Ival.hasS lo hi ((tmOf J.t).tm (i + k) - (tmOf J.t).tm i)) w enterF2 (fun k hk W hb => ?_) (by have := h.jw.hn; omega) (fun a b hab hb h1 => ?_)
 ·have hB := h.below hb
  exact fut2 J bs bx bi i k (i + k) lo hi W hB.jw hB.s0 hB.s1 hB.x0 (below_cell hb hi0) rfl (by omega)
 ·have h1 := (has_in hs _).1 h1
  refine (has_in hs _).2 ⟨?_, h2 b hb⟩
  have := time_mono h.jw.mt (show i + a ≤ i + b by omega) (show i + b < J.t.events.length by rw [h.jw.tr.elen]; omega)
  omega
set_option maxHeartbeats 8000000 in
set_option maxRecDepth 100000 in
theorem landPast (J : Jd) (lo hi : Int) (w : World) (h : JW J w) (hs : Ival.mayS lo hi = true) :
  Calls Tryz.prog 41 #[.pointer (some ⟨J.gj, 0, none⟩), Ival.span lo hi] w (GotS w J.n fun s t => ∀ j, j < J.n → PastS (tmOf J.t) lo hi j (s j) (t j)) := by
 have q63 : maxLen = 9223372036854775807 := rfl
 obtain ⟨i1, hi1, hy0, hy1, hy2⟩ := info_parts infoSt
 obtain ⟨n, hn⟩ : ∃ n, J.n = n := ⟨_, rfl⟩
 have hn64 : n ≤ 64 := by rw [← hn]; exact h.hn
 have b2 : i1.bytes * n ≤ 281474976710656 := by rw [hy2]; omega
 have b3 : n ≤ maxLen := by omega
 obtain ⟨W0, hW0⟩ : ∃ W0, (w.alloc (.cells #[.pointer (some ⟨J.gj, 0, none⟩)] 62)).alloc (.cells #[.int .i64 lo, .int .i64 hi] 33) = W0 := ⟨_, rfl⟩
 have hal : Below w.heap.size w (w.alloc (.cells #[.pointer (some ⟨J.gj, 0, none⟩)] 62)) := (Below.refl _ _).alloc (Nat.le_refl _) _
 have hal2 : Below (w.heap.size + 1) (w.alloc (.cells #[.pointer (some ⟨J.gj, 0, none⟩)] 62)) W0 := by rw [← hW0]; exact (Below.refl _ _).alloc (by simp) _
 have hb0 : Below w.heap.size w W0 := hal.trans (hal2.mono (Nat.le_succ _))
 have hsz : W0.heap.size = w.heap.size + 2 := by rw [← hW0]; simp
 have hX : Bxs J lo hi (w.heap.size + 1) w.heap.size W0 := by
  refine ⟨h.below hb0, ?_, ?_, ?_⟩
  ·have := box_cell (w := w.alloc (.cells #[.pointer (some ⟨J.gj, 0, none⟩)] 62)) (cs := #[.int .i64 lo, .int .i64 hi]) (T := 33) 0 _ rfl
   rw [hW0] at this
   simpa using this
  ·have := box_cell (w := w.alloc (.cells #[.pointer (some ⟨J.gj, 0, none⟩)] 62)) (cs := #[.int .i64 lo, .int .i64 hi]) (T := 33) 1 _ rfl
   rw [hW0] at this
   simpa using this
  ·exact (hal2.cell (p := ⟨w.heap.size, 0, none⟩) (Nat.lt_succ_self _)).trans (box_cell 0 _ rfl)
 have HX0 := Lib.hid hX
 have HB0 := Lib.hid hb0
 have HS := Lib.hid hs
 have HN := Lib.hid hn
 have HSZ := Lib.hid hsz
 have x0 := hX.x0
 have c1 := hX.jw.c1
 rw [hn] at c1 ⊢
 obtain ⟨g, hg⟩ : ∃ g, J.gj = g := ⟨_, rfl⟩
 have HGG := Lib.hid hg
 rw [hg] at x0 c1 hW0 ⊢
 clear h hs hn hal hal2 hb0 hX hg hsz
 go_enter Tryz.func41, Tryz.ntmps41
 go_wp2_with (at_make; refine wpList_make_full _ rfl (.tmp 13) (.tmp 13) 80 rfl w.heap.size 93 i1 (.agg #[.int .i64 0, .int .i64 0]) 2 Tryz.underlying80 hi1 hy0 hy1 .i64 .i64 _ _ n rfl rfl rfl rfl b2 b3 HB0.out.size ?_; intro w1 hmade hgr1; rw [made_st] at hmade)
 have HM := Lib.hid (show OS w1 w.heap.size W0.heap.size n (fun _ => 0) (fun _ => 0) from by
  unfold OS
  rw [il_congr (g := fun _ => 0) (fun j _ => by unfold sg; split <;> rfl), il_zero]
  exact hmade)
 have HG := Lib.hid (show Below W0.heap.size W0 w1 from ⟨hgr1.os, hgr1.tape, hgr1.output, hgr1.size, fun k hk => hgr1.block k hk (by simp)⟩)
 obtain ⟨R, hR⟩ : ∃ R, W0.heap.size = R := ⟨_, rfl⟩
 have HSR := Lib.hid (show w.heap.size + 2 = R from by rw [← hR]; exact HSZ.out.symm)
 rw [hR] at HM HG ⊢
 have HR := Lib.hid hR
 clear hmade hgr1 hR x0 c1
 go_loopw [6, 7, 8, 17] (fun _ _ _ v wr => ∃ (i : Nat) (s t : Nat → Nat), v = .int .i64 (i : Nat) ∧ i ≤ n ∧ OS wr w.heap.size R n s t ∧ Hid (∀ j, j < i → PastS (tmOf J.t) lo hi j (s j) (t j)) ∧ Below R W0 wr) (fun _ _ _ v _ => n - (intOf v).toNat)
 case atStart => exact ⟨0, _, _, rfl, Nat.zero_le _, HM.out, Lib.hid (fun j hj => absurd hj (Nat.not_lt_zero _)), HG.out⟩
 case round =>
  obtain ⟨i, s, t, rfl, hin, hO, hP, hB⟩ := hrel
  have HO := Lib.hid hO
  have HB := Lib.hid hB
  by_cases hlt : i < n
  ·obtain ⟨Wi, hWi⟩ : ∃ Wi, wr.alloc (.cells #[.int .i64 ((i : Nat) : Int)] 3) = Wi := ⟨_, rfl⟩
   have hbi : Below wr.heap.size wr Wi := by rw [← hWi]; exact (Below.refl _ _).alloc (Nat.le_refl _) _
   have di : Wi.cell? ⟨wr.heap.size, 0, none⟩ = some (.int .i64 ((i : Nat) : Int)) := by rw [← hWi]; exact box_cell 0 _ rfl
   have hsz := hB.size
   have hBW : Below R W0 Wi := hB.trans (hbi.mono (by have := HR.out; omega))
   have hXi : Bxs J lo hi (w.heap.size + 1) w.heap.size Wi := HX0.out.below (by rw [HR.out]; exact hBW)
   have HXi := Lib.hid hXi
   have HBW := Lib.hid hBW
   have HOi := Lib.hid (hO.below hbi)
   have xi := hXi.x0
   rw [HGG.out] at xi
   have HS1 := Lib.hid (searchP1 J lo hi (w.heap.size + 1) w.heap.size wr.heap.size i Wi hXi HS.out di (by rw [HN.out]; exact hlt))
   clear hO hB hsz hBW hXi
   go_wp2_with fail
   refine HS1.out.mono ?_
   rintro e w2 ⟨F, rfl, hF, p1, p2, hb2⟩
   obtain ⟨Wf, hWf⟩ : ∃ Wf, w2.alloc (.cells #[.int .i64 ((F : Nat) : Int)] 3) = Wf := ⟨_, rfl⟩
   have hbf : Below w2.heap.size w2 Wf := by rw [← hWf]; exact (Below.refl _ _).alloc (Nat.le_refl _) _
   have hb3 : Below Wi.heap.size Wi Wf := hb2.trans (hbf.mono hb2.size)
   have df : Wf.cell? ⟨w2.heap.size, 0, none⟩ = some (.int .i64 ((F : Nat) : Int)) := by rw [← hWf]; exact box_cell 0 _ rfl
   have di2 := below_cell hb3 di
   have HXf := Lib.hid (HXi.out.below hb3)
   obtain ⟨m, hm⟩ : ∃ m, i + 1 - F = m := ⟨_, rfl⟩
   obtain ⟨i2, hi2⟩ : ∃ i2, i + 1 = i2 := ⟨_, rfl⟩
   have hw1 : IntKind.i64.wrap (((i : Nat) : Int) + 1) = ((i2 : Nat) : Int) := by rw [show ((i : Nat) : Int) + 1 = ((i2 : Nat) : Int) by omega]; exact wrap_small _ (by omega)
   have hw2 : IntKind.i64.wrap (((i2 : Nat) : Int) - ((F : Nat) : Int)) = ((m : Nat) : Int) := by rw [show ((i2 : Nat) : Int) - ((F : Nat) : Int) = ((m : Nat) : Int) by omega]; exact wrap_small _ (by omega)
   have hPQ : ∀ j, F ≤ j → j ≤ i → (hi = -1 ∨ (((tmOf J.t).tm i - (tmOf J.t).tm j : Nat) : Int) ≤ hi) := fun j h1 h2 => by
    rw [← class_in HS.out]
    by_cases e : j = i
    ·have hp := Ival.may_parts HS.out
     rw [e, Nat.sub_self, class_in HS.out]
     omega
    ·exact of_decide_eq_true (p2 j h1 (by omega))
   have HS2 := Lib.hid (searchP2 J lo hi (w.heap.size + 1) w.heap.size w2.heap.size wr.heap.size F i m Wf.drew (HXi.out.below (hb3.trans (Below.refl _ _).drew)) HS.out df di2 (by rw [HN.out]; exact hlt) hF hm hPQ)
   have HP1 := Lib.hid (And.intro p1 p2)
   have HW := Lib.hid hb3
   have HE := Lib.hid (And.intro hm hi2)
   have HF := Lib.hid hF
   clear p1 p2 hb2 hbf hb3 hm hi2 hPQ HS1 hF
   go_wp2_with fail
   refine wp_region_held_drew (S := fun V => V.cell? ⟨w2.heap.size, 0, none⟩ = some (.int .i64 ((F : Nat) : Int)) ∧ V.cell? ⟨wr.heap.size, 0, none⟩ = some (.int .i64 ((i : Nat) : Int))) (by kernel_rfl) ⟨df, di2⟩ (fun hHeld => ?_)
   refine tkOp 0 hHeld ?_
   refine tkOp 1 hHeld ?_
   refine tkOp 2 hHeld ?_
   refine tkOp 3 hHeld ?_
   refine tkOp 4 hHeld ?_
   refine tkOp 5 hHeld ?_
   refine tkCall 6 (fun Kt hKt => ?_)
   go_simp
   (go_at_call 63; refine HS2.out.mono ?_; rintro e w4 ⟨q, rfl, hq, q1, q2, hb4⟩)
   refine hKt.out _ _ ?_ (fun hT => ?_)
   ·(exact ⟨below_cell hb4 df, below_cell hb4 di2⟩)
   clear hKt Kt hHeld
   have hHeld := hT
   clear hT
   try simp only [Act.put, tkA, tkB, tkC]
   obtain ⟨Q, hQ⟩ : ∃ Q, F + q = Q := ⟨_, rfl⟩
   have hw3 : IntKind.i64.wrap (((F : Nat) : Int) + ((q : Nat) : Int)) = ((Q : Nat) : Int) := by rw [show ((F : Nat) : Int) + ((q : Nat) : Int) = ((Q : Nat) : Int) by omega]; exact wrap_small _ (by have := HE.out; have := HF.out; omega)
   refine tkOp 7 hHeld ?_
   refine tkOp 8 hHeld ?_
   refine wpAnyH_done (by kernel_rfl) ?_ _
   have hb5 : Below Wi.heap.size Wi w4 := HW.out.trans ((Below.refl _ Wf).drew.trans (hb4.mono HW.out.size))
   have hO4 := HOi.out.below hb5
   have HO4 := Lib.hid hO4
   obtain ⟨r1, r2⟩ := hO4.rs i hlt
   have f1 := own_fz hO4 (i * 2)
   have f2 := own_fz hO4 (i * 2 + 1)
   have dF := below_cell hb4 df
   have dI := below_cell hb4 di2
   have HPS := Lib.hid (past_of (T := tmOf J.t) HS.out HF.out HP1.out.1 HP1.out.2 (show q ≤ i + 1 - F by rw [HE.out.1]; exact hq) q1 (fun k h1 h2 => q2 k h1 (by rw [← HE.out.1]; exact h2)))
   rw [hQ] at HPS
   have HB5 := Lib.hid (HBW.out.trans (hb5.mono (by have := HBW.out.size; have := HR.out; omega)))
   clear hHeld q1 q2 hb4 hb5 hO4 hQ hq df di2 di hw1 hw2 hw3 HS2
   go_wp2_with fail
   go_roundw
   case rel =>
    refine ⟨i + 1, upd s i F, upd t i Q, by simp, by omega, (HO4.out.put1 hlt F).put2 hlt Q, Lib.hid (fun j hj => ?_), (HB5.out.setCell (p := ⟨R, i * 2, none⟩) (Nat.le_refl _) _).setCell (p := ⟨R, i * 2 + 1, none⟩) (Nat.le_refl _) _⟩
    by_cases e : j = i
    ·rw [e, upd_at, upd_at]
     exact HPS.out
    ·rw [upd_off _ _ e, upd_off _ _ e]
     exact hP.out j (by omega)
   case measure => (show n - (i + 1) < n - i; omega)
  ·obtain rfl : i = n := by omega
   clear hO hB
   go_wp2_with fail
   go_ret
   exact ⟨R, s, t, rfl, HO.out, hP.out, HB0.out.trans (HB.out.mono (by have := HSR.out; omega))⟩
set_option maxHeartbeats 8000000 in
set_option maxRecDepth 100000 in
theorem landFuture (J : Jd) (lo hi : Int) (w : World) (h : JW J w) (hs : Ival.mayS lo hi = true) :
  Calls Tryz.prog 43 #[.pointer (some ⟨J.gj, 0, none⟩), Ival.span lo hi] w (GotS w J.n fun s t => ∀ j, j < J.n → FutS (tmOf J.t) lo hi j (s j) (t j)) := by
 have q63 : maxLen = 9223372036854775807 := rfl
 obtain ⟨i1, hi1, hy0, hy1, hy2⟩ := info_parts infoSt
 obtain ⟨n, hn⟩ : ∃ n, J.n = n := ⟨_, rfl⟩
 have hn64 : n ≤ 64 := by rw [← hn]; exact h.hn
 have b2 : i1.bytes * n ≤ 281474976710656 := by rw [hy2]; omega
 have b3 : n ≤ maxLen := by omega
 obtain ⟨W0, hW0⟩ : ∃ W0, (w.alloc (.cells #[.pointer (some ⟨J.gj, 0, none⟩)] 62)).alloc (.cells #[.int .i64 lo, .int .i64 hi] 33) = W0 := ⟨_, rfl⟩
 have hal : Below w.heap.size w (w.alloc (.cells #[.pointer (some ⟨J.gj, 0, none⟩)] 62)) := (Below.refl _ _).alloc (Nat.le_refl _) _
 have hal2 : Below (w.heap.size + 1) (w.alloc (.cells #[.pointer (some ⟨J.gj, 0, none⟩)] 62)) W0 := by rw [← hW0]; exact (Below.refl _ _).alloc (by simp) _
 have hb0 : Below w.heap.size w W0 := hal.trans (hal2.mono (Nat.le_succ _))
 have hsz : W0.heap.size = w.heap.size + 2 := by rw [← hW0]; simp
 have hX : Bxs J lo hi (w.heap.size + 1) w.heap.size W0 := by
  refine ⟨h.below hb0, ?_, ?_, ?_⟩
  ·have := box_cell (w := w.alloc (.cells #[.pointer (some ⟨J.gj, 0, none⟩)] 62)) (cs := #[.int .i64 lo, .int .i64 hi]) (T := 33) 0 _ rfl
   rw [hW0] at this
   simpa using this
  ·have := box_cell (w := w.alloc (.cells #[.pointer (some ⟨J.gj, 0, none⟩)] 62)) (cs := #[.int .i64 lo, .int .i64 hi]) (T := 33) 1 _ rfl
   rw [hW0] at this
   simpa using this
  ·exact (hal2.cell (p := ⟨w.heap.size, 0, none⟩) (Nat.lt_succ_self _)).trans (box_cell 0 _ rfl)
 have HX0 := Lib.hid hX
 have HB0 := Lib.hid hb0
 have HS := Lib.hid hs
 have HN := Lib.hid hn
 have HSZ := Lib.hid hsz
 have x0 := hX.x0
 have c1 := hX.jw.c1
 rw [hn] at c1 ⊢
 obtain ⟨g, hg⟩ : ∃ g, J.gj = g := ⟨_, rfl⟩
 have HGG := Lib.hid hg
 rw [hg] at x0 c1 hW0 ⊢
 clear h hs hn hal hal2 hb0 hX hg hsz
 go_enter Tryz.func43, Tryz.ntmps43
 go_wp2_with (at_make; refine wpList_make_full _ rfl (.tmp 13) (.tmp 13) 80 rfl w.heap.size 93 i1 (.agg #[.int .i64 0, .int .i64 0]) 2 Tryz.underlying80 hi1 hy0 hy1 .i64 .i64 _ _ n rfl rfl rfl rfl b2 b3 HB0.out.size ?_; intro w1 hmade hgr1; rw [made_st] at hmade)
 have HM := Lib.hid (show OS w1 w.heap.size W0.heap.size n (fun _ => 0) (fun _ => 0) from by
  unfold OS
  rw [il_congr (g := fun _ => 0) (fun j _ => by unfold sg; split <;> rfl), il_zero]
  exact hmade)
 have HG := Lib.hid (show Below W0.heap.size W0 w1 from ⟨hgr1.os, hgr1.tape, hgr1.output, hgr1.size, fun k hk => hgr1.block k hk (by simp)⟩)
 obtain ⟨R, hR⟩ : ∃ R, W0.heap.size = R := ⟨_, rfl⟩
 have HSR := Lib.hid (show w.heap.size + 2 = R from by rw [← hR]; exact HSZ.out.symm)
 rw [hR] at HM HG ⊢
 have HR := Lib.hid hR
 clear hmade hgr1 hR x0 c1
 go_loopw [6, 7, 8, 17] (fun _ _ _ v wr => ∃ (i : Nat) (s t : Nat → Nat), v = .int .i64 (i : Nat) ∧ i ≤ n ∧ OS wr w.heap.size R n s t ∧ Hid (∀ j, j < i → FutS (tmOf J.t) lo hi j (s j) (t j)) ∧ Below R W0 wr) (fun _ _ _ v _ => n - (intOf v).toNat)
 case atStart => exact ⟨0, _, _, rfl, Nat.zero_le _, HM.out, Lib.hid (fun j hj => absurd hj (Nat.not_lt_zero _)), HG.out⟩
 case round =>
  obtain ⟨i, s, t, rfl, hin, hO, hP, hB⟩ := hrel
  have HO := Lib.hid hO
  have HB := Lib.hid hB
  by_cases hlt : i < n
  ·obtain ⟨Wi, hWi⟩ : ∃ Wi, wr.alloc (.cells #[.int .i64 ((i : Nat) : Int)] 3) = Wi := ⟨_, rfl⟩
   have hbi : Below wr.heap.size wr Wi := by rw [← hWi]; exact (Below.refl _ _).alloc (Nat.le_refl _) _
   have di : Wi.cell? ⟨wr.heap.size, 0, none⟩ = some (.int .i64 ((i : Nat) : Int)) := by rw [← hWi]; exact box_cell 0 _ rfl
   have hsz := hB.size
   have hBW : Below R W0 Wi := hB.trans (hbi.mono (by have := HR.out; omega))
   have hXi : Bxs J lo hi (w.heap.size + 1) w.heap.size Wi := HX0.out.below (by rw [HR.out]; exact hBW)
   have HXi := Lib.hid hXi
   have HBW := Lib.hid hBW
   have HOi := Lib.hid (hO.below hbi)
   have xi := hXi.x0
   rw [HGG.out] at xi
   obtain ⟨m, hm⟩ : ∃ m, n - i = m := ⟨_, rfl⟩
   have HS1 := Lib.hid (searchF1 J lo hi (w.heap.size + 1) w.heap.size wr.heap.size i m Wi.drew (HX0.out.below (by rw [HR.out]; exact hBW.drew)) HS.out di (by rw [HN.out]; exact hlt) (by rw [HN.out]; exact hm))
   have hw1 : IntKind.i64.wrap (((n : Nat) : Int) - ((i : Nat) : Int)) = ((m : Nat) : Int) := by rw [show ((n : Nat) : Int) - ((i : Nat) : Int) = ((m : Nat) : Int) by omega]; exact wrap_small _ (by omega)
   have HE := Lib.hid hm
   clear hO hB hsz hBW hXi hm
   go_wp2_with fail
   refine wp_region_held_drew (S := fun V => V.cell? ⟨wr.heap.size, 0, none⟩ = some (.int .i64 ((i : Nat) : Int))) (by kernel_rfl) di (fun hHeld => ?_)
   refine tkOp 0 hHeld ?_
   refine tkOp 1 hHeld ?_
   refine tkOp 2 hHeld ?_
   refine tkOp 3 hHeld ?_
   refine tkOp 4 hHeld ?_
   refine tkOp 5 hHeld ?_
   refine tkCall 6 (fun Kt hKt => ?_)
   go_simp
   (go_at_call 63; refine HS1.out.mono ?_; rintro e w2 ⟨p, rfl, hp, p1, p2, hb2⟩)
   refine hKt.out _ _ ?_ (fun hT => ?_)
   ·(exact below_cell hb2 di)
   clear hKt Kt hHeld
   have hHeld := hT
   clear hT
   try simp only [Act.put, tkA, tkB, tkC]
   obtain ⟨E, hE⟩ : ∃ E, i + p = E := ⟨_, rfl⟩
   have hw3 : IntKind.i64.wrap (((i : Nat) : Int) + ((p : Nat) : Int)) = ((E : Nat) : Int) := by rw [show ((i : Nat) : Int) + ((p : Nat) : Int) = ((E : Nat) : Int) by omega]; exact wrap_small _ (by have := HE.out; omega)
   refine tkOp 7 hHeld ?_
   refine tkOp 8 hHeld ?_
   refine wpAnyH_done (by kernel_rfl) ?_ _
   have hb3 : Below Wi.heap.size Wi w2 := (Below.refl _ Wi).drew.trans hb2
   have di2 : w2.cell? ⟨wr.heap.size, 0, none⟩ = some (.int .i64 ((i : Nat) : Int)) := below_cell hb3 di
   have HPQ : ∀ k, k < p → (hi = -1 ∨ (((tmOf J.t).tm (i + k) - (tmOf J.t).tm i : Nat) : Int) ≤ hi) := fun k hk => by
    rw [← class_in HS.out]
    have := of_decide_eq_false (p1 k hk)
    omega
   have HS2 := Lib.hid (searchF2 J lo hi (w.heap.size + 1) w.heap.size wr.heap.size i p w2.drew (HXi.out.below hb3.drew) HS.out di2 (by rw [HN.out]; exact hlt) (by rw [HN.out]; have := HE.out; omega) HPQ)
   have hw2 : IntKind.i64.wrap (((E : Nat) : Int) - ((i : Nat) : Int)) = ((p : Nat) : Int) := by rw [show ((E : Nat) : Int) - ((i : Nat) : Int) = ((p : Nat) : Int) by omega]; exact wrap_small _ (by have := HE.out; omega)
   have HP1 := Lib.hid (And.intro p1 p2)
   have HW := Lib.hid hb3
   have HPM := Lib.hid (And.intro hp hE)
   clear hHeld p1 p2 hb2 hb3 HPQ HS1 hp hE hw1 hw3
   go_wp2_with fail
   refine wp_region_held_drew (S := fun V => V.cell? ⟨wr.heap.size, 0, none⟩ = some (.int .i64 ((i : Nat) : Int))) (by kernel_rfl) di2 (fun hHeld => ?_)
   refine tkOp 0 hHeld ?_
   refine tkOp 1 hHeld ?_
   refine tkOp 2 hHeld ?_
   refine tkOp 3 hHeld ?_
   refine tkOp 4 hHeld ?_
   refine tkCall 5 (fun Kt hKt => ?_)
   go_simp
   (go_at_call 63; refine HS2.out.mono ?_; rintro e w4 ⟨q, rfl, hq, q1, q2, hb4⟩)
   refine hKt.out _ _ ?_ (fun hT => ?_)
   ·(exact below_cell hb4 di2)
   clear hKt Kt hHeld
   have hHeld := hT
   clear hT
   try simp only [Act.put, tkA, tkB, tkC]
   obtain ⟨Q, hQ⟩ : ∃ Q, i + q = Q := ⟨_, rfl⟩
   have hw3 : IntKind.i64.wrap (((i : Nat) : Int) + ((q : Nat) : Int)) = ((Q : Nat) : Int) := by rw [show ((i : Nat) : Int) + ((q : Nat) : Int) = ((Q : Nat) : Int) by omega]; exact wrap_small _ (by have := HE.out; have := HPM.out; omega)
   refine tkOp 6 hHeld ?_
   refine tkOp 7 hHeld ?_
   refine wpAnyH_done (by kernel_rfl) ?_ _
   have hb5 : Below Wi.heap.size Wi w4 := HW.out.trans ((Below.refl _ w2).drew.trans (hb4.mono HW.out.size))
   have hO4 := HOi.out.below hb5
   have HO4 := Lib.hid hO4
   obtain ⟨r1, r2⟩ := hO4.rs i hlt
   have f1 := own_fz hO4 (i * 2)
   have f2 := own_fz hO4 (i * 2 + 1)
   have dI := below_cell hb4 di2
   have HPS := Lib.hid (fut_of (T := tmOf J.t) HS.out (show i < (tmOf J.t).n by rw [HX0.out.jw.tn, HN.out]; exact hlt) (show p ≤ (tmOf J.t).n - i by rw [HX0.out.jw.tn, HN.out, HE.out]; exact HPM.out.1) HP1.out.1 (fun k h1 h2 => HP1.out.2 k h1 (by rw [HX0.out.jw.tn, HN.out, HE.out] at h2; exact h2)) hq q1 q2)
   rw [hQ, HPM.out.2] at HPS
   have HB5 := Lib.hid (HBW.out.trans (hb5.mono (by have := HBW.out.size; have := HR.out; omega)))
   clear hHeld q1 q2 hb4 hb5 hO4 hQ hq di2 di hw2 hw3 HS2
   go_wp2_with fail
   go_roundw
   case rel =>
    refine ⟨i + 1, upd s i Q, upd t i E, by simp, by omega, (HO4.out.put1 hlt Q).put2 hlt E, Lib.hid (fun j hj => ?_), (HB5.out.setCell (p := ⟨R, i * 2, none⟩) (Nat.le_refl _) _).setCell (p := ⟨R, i * 2 + 1, none⟩) (Nat.le_refl _) _⟩
    by_cases e : j = i
    ·rw [e, upd_at, upd_at]
     exact HPS.out
    ·rw [upd_off _ _ e, upd_off _ _ e]
     exact hP.out j (by omega)
   case measure => (show n - (i + 1) < n - i; omega)
  ·obtain rfl : i = n := by omega
   clear hO hB
   go_wp2_with fail
   go_ret
   exact ⟨R, s, t, rfl, HO.out, hP.out, HB0.out.trans (HB.out.mono (by have := HSR.out; omega))⟩
end Go.Proofs.YtdbgaccnejffpaaGreatDoor.Sat
