/-
  One round of the landed Reach (stage 14). By an AI agent.
-/
import Derived.Test.YtdbgaccnejffpaaGreatDoorGSatDual1
import Derived.Test.YtdbgaccnejffpaaGreatDoorGSatDual30
import Derived.Test.YtdbgaccnejffpaaGreatDoorGSatDual27
namespace Go.Proofs.YtdbgaccnejffpaaGreatDoor.Paths
open Go.RowKit Go.Shelf Go.Proofs.YtdbgaccnejffpaaGreatDoor.Ints Go.Proofs.YtdbgaccnejffpaaGreatDoor.Mem Go.Proofs.YtdbgaccnejffpaaGreatDoor.Src Go.Proofs.YtdbgaccnejffpaaGreatDoor.Tree Go.Proofs.YtdbgaccnejffpaaGreatDoor.BitsWalks Go.Proofs.YtdbgaccnejffpaaGreatDoor.RdW Go.Proofs.YtdbgaccnejffpaaGreatDoor.Words Go.Proofs.YtdbgaccnejffpaaGreatDoor.Round Go.Proofs.YtdbgaccnejffpaaGreatDoor.Late
attribute [local go_sem] Oper.semAt_some wide_fn wide_depth
theorem region_late {P : Program} {ops : Array Oper} {Q : Exit → Act → World → Prop} {n : Nat} {r : Option Nat} {id : Nat} {a : Act} {w : World} (S : World → Prop) (late : List Nat) (hm : P.follows .mixedOrders = true) (hd : noDefer ops = true) (hQ : ∀ a w, ¬ Q .outgrown a w) (hS : S w.drew)
  (h : S w.drew → wpAnyL P .any ops Q S late ops.size (Array.replicate ops.size false) a w.drew) : (Code.region id ops true).wpIn (Wide r) n P Q a w := by
 refine wpIn_region_draw fun t => ops_all hd hQ _ _ _ ?_
 simp only [Region.schedule, hm, Bool.true_or, if_true]
 exact wpAny_sound ops.size t _ a _ (wpAny_of_late _ _ _ _ (h hS))
theorem GMem.low {w w' : World} {lo1 lo gp np nt : Nat} {sv pv : Value} {st sp : List Ed} (h : GMem w lo1 gp sv pv np nt st sp) (hb : Below lo w w') (hg : gp < lo) (hs : ∀ q, sv.ownBlock = some q → q < lo) (hp : ∀ q, pv.ownBlock = some q → q < lo) : GMem w' lo1 gp sv pv np nt st sp :=
 ⟨h.blk.below hb hg, h.hg, Nat.le_trans h.hb hb.size, own_same' h.sts (fun q e => hb.block q (hs q e)), own_same' h.sps (fun q e => hb.block q (hp q e)), h.sg, h.pg, h.ne⟩
theorem rdW_low {w w' : World} {lo q : Nat} {K : Option Addr} {xs : List Nat} (h : RdW w K q xs) (hb : Below lo w w') (hk : ∀ a, K = some a → 0 < q → a.block < lo) : RdW w' K q xs := ⟨h.1, h.2.1, fun h0 => by
 obtain ⟨b, off, e, hc⟩ := h.2.2 h0
 exact ⟨b, off, e, fun j hj => (hb.cell (p := ⟨b, off + j, none⟩) (show b < lo from hk ⟨b, off, none⟩ e h0)).trans (hc j hj)⟩⟩
def outR (nv : Nat) (done : Nat → Bool) (rb : Nat → Nat) : List Value := (List.range nv).map fun a => if done a = true then .slice (some ⟨rb a, 0, none⟩) nv nv else .slice none 0 0
theorem outR_len (nv : Nat) (done : Nat → Bool) (rb : Nat → Nat) : (outR nv done rb).length = nv := by simp [outR]
theorem outR_at {nv : Nat} {done : Nat → Bool} {rb : Nat → Nat} {a : Nat} (h : a < nv) : (outR nv done rb)[a]? = some (if done a = true then .slice (some ⟨rb a, 0, none⟩) nv nv else .slice none 0 0) := by
 unfold outR
 rw [List.getElem?_map, List.getElem?_range h]
 rfl
theorem outR_set {nv : Nat} (done : Nat → Bool) (rb : Nat → Nat) (i B : Nat) : (outR nv done rb).set i (.slice (some ⟨B, 0, none⟩) nv nv) = outR nv (fun a => done a || a == i) (fun a => if a = i then B else rb a) := by
 apply List.ext_getElem?
 intro a
 rw [List.getElem?_set, outR_len]
 by_cases h : a < nv
 ·rw [outR_at h, outR_at h]
  by_cases e : i = a
  ·subst e
   rw [if_pos rfl, if_pos h, if_pos (by simp), if_pos rfl]
  ·rw [if_neg e, if_neg (show ¬ a = i from fun e2 => e e2.symm)]
   rw [show (done a || a == i) = done a by rw [beq_eq_false_iff_ne.2 (show a ≠ i from fun e2 => e e2.symm), Bool.or_false]]
 ·rw [List.getElem?_eq_none (l := outR nv (fun a => done a || a == i) _) (by rw [outR_len]; omega)]
  by_cases e : i = a
  ·rw [if_pos e, if_neg (by omega)]
  ·rw [if_neg e, List.getElem?_eq_none (by rw [outR_len]; omega)]
structure RowsT (W : World) (lo BR nv : Nat) (done : Nat → Bool) (rb : Nat → Nat) (F : Nat → Nat → Bool) : Prop where
 out : W.ownsRow lo 52 1 (.slice (some ⟨BR, 0, none⟩) nv nv) nv (outR nv done rb)
 row : ∀ a, a < nv → done a = true → W.ownsRow lo 4 1 (.slice (some ⟨rb a, 0, none⟩) nv nv) nv (rowB nv (F a))
 off : ∀ a, a < nv → done a = true → rb a ≠ BR ∧ ∀ b, b < nv → done b = true → rb a = rb b → a = b
theorem RowsT.kept {W W' : World} {lo BR nv : Nat} {done : Nat → Bool} {rb : Nat → Nat} {F : Nat → Nat → Bool} (h : RowsT W lo BR nv done rb F) (hB : W'.heap[BR]? = W.heap[BR]?) (hR : ∀ a, a < nv → done a = true → W'.heap[rb a]? = W.heap[rb a]?) : RowsT W' lo BR nv done rb F :=
 ⟨own_same' h.out (fun q e => by injection e with e; rw [← e]; exact hB), fun a ha hd => own_same' (h.row a ha hd) (fun q e => by injection e with e; rw [← e]; exact hR a ha hd), h.off⟩
theorem rows_off {W : World} {lo1 lo2 r k n m c d : Nat} {xs ys : List Value} (h : W.ownsRow lo1 4 1 (.slice (some ⟨r, 0, none⟩) n c) n xs) (h2 : W.ownsRow lo2 22 1 (.slice (some ⟨k, 0, none⟩) m d) m ys) : r ≠ k := fun e => by
 subst e
 rcases h.2 with ⟨e1, -⟩ | ⟨g1, c1, cur1, e1, -, hq1, -⟩
 ·cases e1
 rcases h2.2 with ⟨e2, -⟩ | ⟨g2, c2, cur2, e2, -, hq2, -⟩
 ·cases e2
 injection e1 with e1
 injection e1 with e1
 injection e1 with e1
 injection e2 with e2
 injection e2 with e2
 injection e2 with e2
 rw [← e1] at hq1
 rw [← e2, hq1] at hq2
 injection hq2 with hq2
 injection hq2 with _ e3 _
 exact absurd e3 (by decide)
theorem RowsT.put {W : World} {lo BR nv : Nat} {done : Nat → Bool} {rb : Nat → Nat} {F : Nat → Nat → Bool} (h : RowsT W lo BR nv done rb F) {i B : Nat} (f : Nat → Bool) (hr : W.ownsRow lo 4 1 (.slice (some ⟨B, 0, none⟩) nv nv) nv (rowB nv f))
  (hB : B ≠ BR) (hnew : ∀ a, a < nv → done a = true → rb a ≠ B) : RowsT (W.setCell ⟨BR, i, none⟩ (.slice (some ⟨B, 0, none⟩) nv nv)) lo BR nv (fun a => done a || a == i) (fun a => if a = i then B else rb a) (fun a => if a = i then f else F a) := by
 have hgr := grown_cell W ⟨BR, i, none⟩ (.slice (some ⟨B, 0, none⟩) nv nv)
 refine ⟨?_, fun a ha hd => ?_, fun a ha hd => ?_⟩
 ·have := own_put (k := i) h.out (.slice (some ⟨B, 0, none⟩) nv nv)
  rw [outR_set] at this
  exact this
 ·by_cases e : a = i
  ·simp only [if_pos e]
   exact hr.kept hgr (.inr (fun e => hB (by injection e)))
  ·simp only [if_neg e]
   have hd : done a = true := by rw [beq_eq_false_iff_ne.2 e, Bool.or_false] at hd; exact hd
   exact (h.row a ha hd).kept hgr (.inr (fun e => (h.off a ha hd).1 (by injection e)))
 ·have hd' : a ≠ i → done a = true := fun e => by rw [beq_eq_false_iff_ne.2 e, Bool.or_false] at hd; exact hd
  by_cases e : a = i
  ·simp only [if_pos e]
   refine ⟨hB, fun b hb hdb e2 => ?_⟩
   by_cases eb : b = i
   ·rw [e, eb]
   ·exfalso
    rw [if_neg eb] at e2
    rw [beq_eq_false_iff_ne.2 eb, Bool.or_false] at hdb
    exact hnew b hb hdb e2.symm
  ·simp only [if_neg e]
   refine ⟨(h.off a ha (hd' e)).1, fun b hb hdb e2 => ?_⟩
   by_cases eb : b = i
   ·exfalso
    rw [if_pos eb] at e2
    exact hnew a ha (hd' e) e2
   ·rw [if_neg eb] at e2
    rw [beq_eq_false_iff_ne.2 eb, Bool.or_false] at hdb
    exact (h.off a ha (hd' e)).2 b hb hdb e2
theorem own_lo {w : World} {lo lo' : Nat} {e : TypeId} {k n : Nat} {v : Value} {xs : List Value} (h : w.ownsRow lo e k v n xs) (hl : lo' ≤ lo) : w.ownsRow lo' e k v n xs := by
 refine ⟨h.1, ?_⟩
 rcases h.2 with h2 | ⟨g, cap, cur, e1, h4, h5, h6⟩
 ·exact .inl h2
 ·exact .inr ⟨g, cap, cur, e1, Nat.le_trans hl h4, h5, h6⟩
theorem grownBy_setCell'' (W : World) (p : Addr) (v : Value) : W.grownBy (W.setCell p v) (some p.block) :=
 ⟨rfl, rfl, rfl, by simp, fun k _ hk => Below.heap_setCell _ _ _ k (fun e => hk (by rw [e]))⟩
def cBody : Code → Code
 | .rangeFunc _ _ _ b => b
 | c => c
set_option maxHeartbeats 16000000 in
set_option maxRecDepth 100000 in
theorem reach_body (A V K : Option Addr) (n c nv cv np nt b3 b5 b6 gp BR X7 X8 Bg Bl lo lo1 lo3 q cq x r : Nat) (v22 v26 v28 sv pv : Value) (Rg Rl G f rb : Nat → Nat) (st sp : List Ed) (vs : Nat → List Nat) (done : Nat → Bool) (F : Nat → Nat → Bool) (W : World) (C : Code)
  (hC : C = cBody (cBlock (cSnd (cFst (cSnd (cSnd (cSnd (cSnd (cSnd (Tryz.f84.body.getD .skip))))))))))
  (hx : x < nv) (hnv : nv ≤ 64) (hnp : 2 ≤ np ∧ np ≤ 2000000) (hG : GMem W lo1 gp sv pv np nt st sp) (hg : Sets W lo Bg Rg np 1 G) (hl : Sets W lo Bl Rl np 1 f) (hap : ∀ i j, i < np → j < np → Rl i ≠ Rg j)
  (x7 : Boxed W X7 103 (.slice (some ⟨Bg, 0, none⟩) np np)) (x8 : Boxed W X8 103 (.slice (some ⟨Bl, 0, none⟩) np np)) (xx : X7 ≠ X8) (l7 : lo ≤ X7) (l8 : lo ≤ X8)
  (h3 : W.cell? ⟨b3, 0, none⟩ = some (.slice V nv cv)) (h5 : W.cell? ⟨b5, 0, none⟩ = some (.pointer (some ⟨gp, 0, none⟩))) (h6 : W.cell? ⟨b6, 0, none⟩ = some (.slice (some ⟨BR, 0, none⟩) nv nv))
  (hgl : gp < lo) (hsl : ∀ q, sv.ownBlock = some q → q < lo) (hpl : ∀ q, pv.ownBlock = some q → q < lo) (l3 : b3 < lo) (l5 : b5 < lo) (l6 : b6 < lo) (lR : BR < lo) (n3 : BR ≠ b3) (n6 : BR ≠ b6)
  (hrows : RowsT W lo3 BR nv done rb F) (hv : RdW W K q (vs x)) (hKl : ∀ a, K = some a → 0 < q → a.block < lo)
  (hE : ∀ e ∈ st, (e.1 < np ∧ e.2.1 < np) ∧ e.2.2 ≤ 9223372036854775807) (hE2 : ∀ e ∈ sp, e.1 < np ∧ e.2.1 < np) (hst : st.length ≤ 100000000) (hsp : sp.length ≤ 2000000) (hlo3 : lo3 ≤ W.heap.size)
  (PK : Act → World → Prop) (hK : ∀ a W' B, Boxed W' X7 103 (.slice (some ⟨Bl, 0, none⟩) np np) → Boxed W' X8 103 (.slice (some ⟨Bg, 0, none⟩) np np) → Sets W' lo Bl Rl np 1 (pointG st sp vs x G) → Sets W' lo Bg Rg np 1 G →
   RowsT W' lo3 BR nv (fun a => done a || a == x) (fun a => if a = x then B else rb a) (fun a => if a = x then (fun j => hasI [pointG st sp vs x G 0] ((j : Nat) : Int)) else F a) → Left (fun k => k = X7 ∨ k = X8 ∨ k = BR ∨ InRows Rl np k) W W' → PK a W') :
  C.wpIn (Fence.wide.inRound r) 8 Tryz.prog (onNormal PK) { tmps := #[.slice A n c, .slice V nv cv, undef, .pointer (some ⟨b3, 0, none⟩), .slice none 0 0, .pointer (some ⟨b5, 0, none⟩), .pointer (some ⟨b6, 0, none⟩), .pointer (some ⟨X7, 0, none⟩), .pointer (some ⟨X8, 0, none⟩), .int .i64 ((x : Nat) : Int), .slice K q cq, .slice A n c, .bool true, .bool false, .slice A n c, .pointer (some ⟨gp, 0, none⟩), .slice V nv cv, .int .i64 (nv : Nat), .slice (some ⟨BR, 0, none⟩) nv nv, .pointer (some ⟨gp, 0, none⟩), .slice V nv cv, .int .i64 (nv : Nat), v22, .pointer (some ⟨gp, 0, none⟩), .slice V nv cv, .int .i64 (nv : Nat), v26, .slice V nv cv, v28, .int .i64 ((x : Nat) : Int), .slice K q cq, undef, undef, undef, undef, undef, undef, undef, undef, undef, undef, undef, undef, undef, undef, undef, undef, undef, undef, undef, undef, undef, undef, undef, undef, undef, undef, undef, undef, undef, undef, undef, undef], defers := [] } W := by
 simp only [Tryz.f84, Option.getD_some, cFst, cSnd, cBlock, cBody] at hC
 subst hC
 have dr : ∀ k, InRows Rl np k → lo ≤ k := fun k ⟨i, hi, e⟩ => e ▸ (hl.lt.2 i hi).1
 have sg7 := sets_boxed x7 hg
 have sl7 := sets_boxed x7 hl
 have sg8 := sets_boxed x8 hg
 have sl8 := sets_boxed x8 hl
 have hcr := sets_cross hl hg
 obtain ⟨W1, hW1⟩ : ∃ W1, (W.setCell ⟨X7, 0, none⟩ (.slice (some ⟨Bl, 0, none⟩) np np)).setCell ⟨X8, 0, none⟩ (.slice (some ⟨Bg, 0, none⟩) np np) = W1 := ⟨_, rfl⟩
 have go1 : ∀ k, k ≠ X7 → k ≠ X8 → W1.heap[k]? = W.heap[k]? := fun k h7 h8 => by rw [← hW1]; exact (Below.heap_setCell _ ⟨X8, 0, none⟩ _ k h8).trans (Below.heap_setCell _ ⟨X7, 0, none⟩ _ k h7)
 have hb1 : Below lo W W1 := by rw [← hW1]; exact ((Below.refl _ W).setCell (p := ⟨X7, 0, none⟩) l7 _).setCell (p := ⟨X8, 0, none⟩) l8 _
 have hsz1 : W1.heap.size = W.heap.size := by rw [← hW1]; simp
 have y7 : Boxed W1 X7 103 (.slice (some ⟨Bl, 0, none⟩) np np) := by rw [← hW1]; exact (x7.set _).kept (grownBy_setCell' _ X8 _) (fun e => xx (by injection e))
 have hx8' := x8.kept (grownBy_setCell' W X7 (.slice (some ⟨Bl, 0, none⟩) np np)) (fun e => xx (by injection e with e; exact e.symm))
 have y8 : Boxed W1 X8 103 (.slice (some ⟨Bg, 0, none⟩) np np) := by rw [← hW1]; exact hx8'.set _
 have hg1 : Sets W1 lo Bg Rg np 1 G := hg.kept (go1 _ sg7.1 sg8.1) (fun i hi => go1 _ (sg7.2 i hi) (sg8.2 i hi))
 have hl1 : Sets W1 lo Bl Rl np 1 f := hl.kept (go1 _ sl7.1 sl8.1) (fun i hi => go1 _ (sl7.2 i hi) (sl8.2 i hi))
 have hG1 := hG.low hb1 hgl hsl hpl
 have k7 := x7.cell
 have g7 := x7.frozen
 have k8 := x8.cell
 have k8' := hx8'.cell
 have g8' := hx8'.frozen
 have p5 : W1.cell? ⟨b5, 0, none⟩ = some (.pointer (some ⟨gp, 0, none⟩)) := (hb1.cell (p := ⟨b5, 0, none⟩) l5).trans h5
 have p7 := y7.cell
 have p8 := y8.cell
 have HSTEP := Lib.hid (landStep lo1 lo gp np nt Bl Bg Rl Rg f G sv pv st sp W1 hG1 hl1 hg1 hap hcr hgl hpl hE2 hnp.2 hsp)
 -- what holds as long as no more than the rows of the goals is stored into
 have HW := Lib.hid (show ∀ W', Left (InRows Rl np) W1 W' → Below lo W W' ∧ Boxed W' X7 103 (.slice (some ⟨Bl, 0, none⟩) np np) ∧ Boxed W' X8 103 (.slice (some ⟨Bg, 0, none⟩) np np) ∧ Sets W' lo Bg Rg np 1 G ∧ RowsT W' lo3 BR nv done rb F from fun W' hL => by
  have hbw : Below lo W W' := hb1.trans (hL.below dr (by rw [hsz1]; have := x7.lt; omega))
  have n7 : ¬ InRows Rl np X7 := fun ⟨i, hi, e⟩ => sl7.2 i hi e.symm
  have n8 : ¬ InRows Rl np X8 := fun ⟨i, hi, e⟩ => sl8.2 i hi e.symm
  have sz := x7.lt
  have sz8 := x8.lt
  refine ⟨hbw, (hL.block X7 (by omega) n7).trans y7, (hL.block X8 (by omega) n8).trans y8, hg1.left hL (fun ⟨i, hi, e⟩ => hcr i hi e.symm) (fun j hj ⟨i, hi, e⟩ => hap i j hi hj e.symm), hrows.kept (hbw.block BR lR) (fun a ha hd => ?_)⟩
  have hr := hrows.row a ha hd
  have h7 := boxed_off x7 hr (by decide)
  have h8 := boxed_off x8 hr (by decide)
  have hlt : rb a < W.heap.size := (hr.lt _ rfl).2
  exact (hL.block (rb a) (by omega) (fun ⟨i, hi, e⟩ => rows_off hr (hl.row i hi) e)).trans (go1 _ h7 h8))
 have HI := Lib.hid (show ∀ W', Below lo W W' → W'.cell? ⟨b3, 0, none⟩ = some (.slice V nv cv) ∧ W'.cell? ⟨b5, 0, none⟩ = some (.pointer (some ⟨gp, 0, none⟩)) ∧ W'.cell? ⟨b6, 0, none⟩ = some (.slice (some ⟨BR, 0, none⟩) nv nv) ∧ GMem W' lo1 gp sv pv np nt st sp ∧ RdW W' K q (vs x) from fun W' hb =>
  ⟨(hb.cell (p := ⟨b3, 0, none⟩) l3).trans h3, (hb.cell (p := ⟨b5, 0, none⟩) l5).trans h5, (hb.cell (p := ⟨b6, 0, none⟩) l6).trans h6, hG.low hb hgl hsl hpl, rdW_low hv hb hKl⟩)
 have HL1 := Lib.hid (show Left (fun k => k = X7 ∨ k = X8 ∨ k = BR ∨ InRows Rl np k) W W1 by rw [← hW1]; exact ((Left.refl _ W).set ⟨X7, 0, none⟩ _ (.inl rfl)).set ⟨X8, 0, none⟩ _ (.inr (.inl rfl)))
 have HOFF := Lib.hid (And.intro hl.off (And.intro sl7 sl8))
 have HLR := Lib.hid dr
 have HROW := Lib.hid hrows
 have HX := Lib.hid hx
 have HKL := Lib.hid hKl
 have hxi : ((x : Nat) : Int) < ((nv : Nat) : Int) := by omega
 have hx64 : ((x : Nat) : Int) < 64 := by omega
 have hxq : ((x : Nat) : Int) / 64 = 0 := by omega
 have hxr : ((x : Nat) : Int) % 64 = ((x : Nat) : Int) := by omega
 have HNP := Lib.hid hnp
 have hxt : ((x : Nat) : Int).tmod 64 = ((x : Nat) : Int) := by rw [Int.tmod_eq_emod_of_nonneg (by omega)]; omega
 have hnpN : 0 < np := by omega
 have hw0 : IntKind.i64.wrap 0 = 0 := by decide
 have hnp1 : (1 : Int) < ((np : Nat) : Int) := by omega
 have hnp0 : (0 : Int) < ((np : Nat) : Int) := by omega
 clear hG hg hl hap x7 x8 hrows hv hKl sg7 sl7 sg8 sl8 hcr go1 hg1 hl1 hG1 h3 h5 h6 hx8' dr y7 y8
 dsimp only
 refine wpIn_block ?_
 refine wpIn_seq_k ?_
 intro K1 hK1
 refine region_all (by kernel_rfl) (fun _ _ h => h) ?_
 go_wp2_with fail
 refine wpIn_seq_k ?_
 intro K2 hK2
 refine region_all (by kernel_rfl) (fun _ _ h => h) ?_
 go_wp2_with fail
 refine HSTEP.out.mono ?_
 rintro e W2 ⟨rfl, hs2, hL2⟩
 obtain ⟨y, hy⟩ : ∃ y, stepG sp G 1 = y := ⟨_, rfl⟩
 have m1 := hs2.outer (show 1 < np by have := HNP.out; omega)
 have m2 := hs2.inner (show 1 < np by have := HNP.out; omega)
 have m3 := hs2.fz (show 1 < np by have := HNP.out; omega) 0
 rw [hy] at m2
 have m0 := (HW.out W2 hL2).2.1.cell
 have HLATE := Lib.hid (show W2.drew.cell? ⟨X7, 0, none⟩ = some (.slice (some ⟨Bl, 0, none⟩) np np) ∧ W2.drew.cell? ⟨Bl, 1, none⟩ = some (.slice (some ⟨Rl 1, 0, none⟩) 1 1) ∧ W2.drew.cell? ⟨Rl 1, 0, none⟩ = some (.int .u64 ((y : Nat) : Int)) ∧ W2.drew.frozen? ⟨Rl 1, 0, none⟩ = false from ⟨m0, m1, m2, m3⟩)
 have HS2 := Lib.hid hs2
 have HL2 := Lib.hid hL2
 have HY := Lib.hid hy
 have hyl : y < 18446744073709551616 := hy ▸ hs2.wd 1 (by have := HNP.out; omega)
 have hor := or_bit y x hyl (by have := HX.out; omega)
 obtain ⟨z, hz⟩ : ∃ z, y ||| 2 ^ x = z := ⟨_, rfl⟩
 rw [hz] at hor
 have HZ := Lib.hid hz
 clear hs2 hL2 m0 m1 m2 m3 hy hz hyl HSTEP p5 p7 p8 k7 g7 k8 k8' g8' hb1
 go_wp2_with fail
 refine wpIn_seq_k ?_
 intro K3 hK3
 refine region_late (fun V => V.cell? ⟨X7, 0, none⟩ = some (.slice (some ⟨Bl, 0, none⟩) np np) ∧ V.cell? ⟨Bl, 1, none⟩ = some (.slice (some ⟨Rl 1, 0, none⟩) 1 1) ∧ V.cell? ⟨Rl 1, 0, none⟩ = some (.int .u64 ((y : Nat) : Int)) ∧ V.frozen? ⟨Rl 1, 0, none⟩ = false) [12] (by kernel_rfl) (by kernel_rfl) (fun _ _ h => h) HLATE.out (fun hHeld => ?_)
 refine ltOp 0 hHeld ?_
 refine ltOp 1 hHeld ?_
 refine ltOp 2 hHeld ?_
 refine ltOp 3 hHeld ?_
 refine ltOp 4 hHeld ?_
 refine ltOp 5 hHeld ?_
 refine ltOp 6 hHeld ?_
 refine ltOp 7 hHeld ?_
 refine ltOp 8 hHeld ?_
 refine ltOp 9 hHeld ?_
 refine ltOp 10 hHeld ?_
 refine ltOp 11 hHeld ?_
 refine ltLast 12 (fun Kt hKt => ?_)
 go_simp
 refine hKt.out _ _ trivial (fun hT => ?_)
 clear hKt Kt hHeld
 have hHeld := hT
 clear hT
 try simp only [Act.put, tkA, tkB, tkC]
 refine wpAnyH_done (by kernel_rfl) ?_ _
 clear hHeld
 refine hK3 _ _ ?_
 -- the store
 have hs3 := (HS2.out.below (Below.refl _ _).drew).set (show 1 < np by have := HNP.out; omega) z (HZ.out ▸ or_small (HY.out ▸ HS2.out.wd 1 (by have := HNP.out; omega)) (Nat.pow_lt_pow_right (by decide) (show x < 64 by have := HX.out; omega)))
 have hl3 : Left (InRows Rl np) W1 (W2.drew.setCell ⟨Rl 1, 0, none⟩ (.int .u64 ((z : Nat) : Int))) := (HL2.out.trans (Left.of_below (Below.refl _ _).drew)).set ⟨Rl 1, 0, none⟩ _ ⟨1, by have := HNP.out; omega, rfl⟩
 have he3 : updS (stepG sp G) 1 z = markG x (stepG sp G) := by unfold markG; rw [HY.out, HZ.out]
 rw [he3] at hs3
 have e0 : W2.drew.setCell ⟨Rl 1, 0, none⟩ (.int .u64 ((z : Nat) : Int)) = (W2.setCell ⟨Rl 1, 0, none⟩ (.int .u64 ((z : Nat) : Int))).drew := rfl
 rw [e0] at hs3 hl3
 obtain ⟨W3, hW3⟩ : ∃ W3, (W2.setCell ⟨Rl 1, 0, none⟩ (.int .u64 ((z : Nat) : Int))).drew = W3 := ⟨_, rfl⟩
 rw [hW3] at hs3 hl3 ⊢
 obtain ⟨hb3, t7, t8, tg, tr⟩ := HW.out W3 hl3
 obtain ⟨e3, e5, e6, eG, eK⟩ := HI.out W3 hb3
 have HSTAY := Lib.hid (landStay lo1 lo gp np nt Bl q cq K (vs x) Rl (markG x (stepG sp G)) sv pv st sp W3 eG hs3 eK hgl hsl HKL.out hE HNP.out.2 hst)
 have d7 := t7.cell
 have HL3 := Lib.hid hl3
 clear hs3 he3 hb3 t7 t8 tg tr e3 e6 eG eK hl3 hor HLATE HS2 HL2 hW3 hK3 K3 e0
 refine wpIn_seq_k ?_
 intro K4 hK4
 refine region_all (by kernel_rfl) (fun _ _ h => h) ?_
 go_wp2_with fail
 refine HSTAY.out.mono ?_
 rintro e W4 ⟨rfl, hs4, hL4⟩
 have hL4 := HL3.out.trans hL4
 obtain ⟨hb4, t7, t8, tg, tr⟩ := HW.out W4 hL4
 obtain ⟨e3', e5', e6', eG, eK⟩ := HI.out W4 hb4
 have hs4 : Sets W4 lo Bl Rl np 1 (pointG st sp vs x G) := hs4
 obtain ⟨P, hP⟩ : ∃ P, pointG st sp vs x G = P := ⟨_, rfl⟩
 rw [hP] at hs4 hK
 have hbd : Below W4.heap.size W4 W4.drew := (Below.refl _ _).drew
 have HROWC := Lib.hid (landRow (Rl 0) (P 0) nv W4.drew (hs4.below hbd |>.inner (show 0 < np by have := HNP.out; omega)) (hs4.wd 0 (by have := HNP.out; omega)) (by omega))
 have HHELD := Lib.hid (show W4.drew.cell? ⟨b6, 0, none⟩ = some (.slice (some ⟨BR, 0, none⟩) nv nv) ∧ W4.drew.cell? ⟨X7, 0, none⟩ = some (.slice (some ⟨Bl, 0, none⟩) np np) ∧ W4.drew.cell? ⟨Bl, 0, none⟩ = some (.slice (some ⟨Rl 0, 0, none⟩) 1 1) ∧ W4.drew.cell? ⟨b3, 0, none⟩ = some (.slice V nv cv) from ⟨e6', t7.cell, hs4.outer (by have := HNP.out; omega), e3'⟩)
 have HS4 := Lib.hid hs4
 have HL4 := Lib.hid hL4
 have HT4 := Lib.hid (And.intro t7 (And.intro t8 (And.intro tg tr)))
 have HB4 := Lib.hid hb4
 clear hs4 hL4 hb4 t7 t8 tg tr e3' e5' e6' eG eK hbd HSTAY HL3 d7 e5
 go_wp2_with fail
 refine region_held (fun V' => V'.cell? ⟨b6, 0, none⟩ = some (.slice (some ⟨BR, 0, none⟩) nv nv) ∧ V'.cell? ⟨X7, 0, none⟩ = some (.slice (some ⟨Bl, 0, none⟩) np np) ∧ V'.cell? ⟨Bl, 0, none⟩ = some (.slice (some ⟨Rl 0, 0, none⟩) 1 1) ∧ V'.cell? ⟨b3, 0, none⟩ = some (.slice V nv cv)) (by kernel_rfl) (by kernel_rfl) (fun _ _ h => h) HHELD.out (fun hHeld => ?_)
 refine tkOp 0 hHeld ?_
 refine tkOp 1 hHeld ?_
 refine tkOp 2 hHeld ?_
 refine tkOp 3 hHeld ?_
 refine tkOp 4 hHeld ?_
 refine tkOp 5 hHeld ?_
 refine tkOp 6 hHeld ?_
 refine tkCall 7 (fun Kt hKt => ?_)
 go_simp
 (go_at_call 96; refine HROWC.out.mono ?_; rintro e W5 ⟨B, rfl, hr5, hb5⟩)
 refine hKt.out _ _ ?_ (fun hT => ?_)
 ·(exact ⟨Mem.below_cell hb5 HHELD.out.1, Mem.below_cell hb5 HHELD.out.2.1, Mem.below_cell hb5 HHELD.out.2.2.1, Mem.below_cell hb5 HHELD.out.2.2.2⟩)
 clear hKt Kt hHeld
 have hHeld := hT
 clear hT
 try simp only [Act.put, tkA, tkB, tkC]
 refine tkOp 8 hHeld ?_
 have hsd : W4.drew.heap.size = W4.heap.size := rfl
 have hr5 := hr5
 have hlB : W4.heap.size ≤ B ∧ B < W5.heap.size := hr5.lt B rfl
 have hb45 : Below W4.heap.size W4 W5 := (Below.refl _ W4).drew.trans hb5
 have htr : RowsT W5 lo3 BR nv done rb F := HT4.out.2.2.2.kept (hb45.block BR (HT4.out.2.2.2.out.lt BR rfl).2) (fun a ha hd => hb45.block _ ((HT4.out.2.2.2.row a ha hd).lt _ rfl).2)
 have hBR4 : BR < W4.heap.size := (HT4.out.2.2.2.out.lt BR rfl).2
 have hcell := htr.out.cells (g := BR) rfl x _ (outR_at HX.out)
 rw [Addr.add_lit, Nat.zero_add] at hcell
 have hfz := own_fz htr.out x
 have hput := htr.put (i := x) (fun j => hasI [P 0] ((j : Nat) : Int)) (own_lo hr5 (show lo3 ≤ W4.drew.heap.size by have := HB4.out.size; omega)) (show B ≠ BR by omega) (fun a ha hd => by have h9 : rb a < W4.heap.size := ((HT4.out.2.2.2.row a ha hd).lt _ rfl).2; omega)
 have hx7 := boxed_later HT4.out.1 hb45
 have hx8 := boxed_later HT4.out.2.1 hb45
 have hsl5 := HS4.out.below hb45
 have hsg5 := HT4.out.2.2.1.below hb45
 have hgr := grownBy_setCell'' W5 ⟨BR, x, none⟩ (.slice (some ⟨B, 0, none⟩) nv nv)
 have n7 : X7 ≠ BR := by omega
 have n8 : X8 ≠ BR := by omega
 have hcl : Left (fun k => k = X7 ∨ k = X8 ∨ k = BR ∨ InRows Rl np k) W (W5.setCell ⟨BR, x, none⟩ (.slice (some ⟨B, 0, none⟩) nv nv)) :=
  ((HL1.out.trans (HL4.out.more (fun k hk => .inr (.inr (.inr hk))))).trans (Left.of_below hb45)).set ⟨BR, x, none⟩ _ (.inr (.inr (.inl rfl)))
 have HEND := Lib.hid (fun a => hK a _ B (hx7.kept hgr (fun e => n7 (by injection e))) (hx8.kept hgr (fun e => n8 (by injection e)))
  (hsl5.kept (Below.heap_setCell W5 _ _ _ (fun e => by have := hsl5.lt.1.1; have e : Bl = BR := e; omega)) (fun i hi => Below.heap_setCell W5 _ _ _ (fun e => by have := (hsl5.lt.2 i hi).1; have e : Rl i = BR := e; omega)))
  (hsg5.kept (Below.heap_setCell W5 _ _ _ (fun e => by have := hsg5.lt.1.1; have e : Bg = BR := e; omega)) (fun i hi => Below.heap_setCell W5 _ _ _ (fun e => by have := (hsg5.lt.2 i hi).1; have e : Rg i = BR := e; omega)))
  hput hcl)
 have go9 : ∀ (k o : Nat) (u : Value), k ≠ BR → W5.cell? ⟨k, o, none⟩ = some u → (W5.setCell ⟨BR, x, none⟩ (.slice (some ⟨B, 0, none⟩) nv nv)).cell? ⟨k, o, none⟩ = some u := fun k o u hk hu => (World.cell?_of_block (w := W5) (a := ⟨k, o, none⟩) (Below.heap_setCell W5 _ _ k hk)).trans hu
 have hbl : Bl ≠ BR := by have := hsl5.lt.1.1; omega
 refine tkCall 9 (fun Kt hKt => ?_)
 go_simp
 refine hKt.out _ _ ?_ (fun hT => ?_)
 ·(exact ⟨go9 _ _ _ (fun e => n6 e.symm) (Mem.below_cell hb5 HHELD.out.1), go9 _ _ _ n7 (Mem.below_cell hb5 HHELD.out.2.1), go9 _ _ _ hbl (Mem.below_cell hb5 HHELD.out.2.2.1), go9 _ _ _ (fun e => n3 e.symm) (Mem.below_cell hb5 HHELD.out.2.2.2)⟩)
 clear hKt Kt hHeld
 have hHeld := hT
 clear hT
 try simp only [Act.put, tkA, tkB, tkC]
 refine wpAnyH_done (by kernel_rfl) ?_ _
 exact HEND.out _
end Go.Proofs.YtdbgaccnejffpaaGreatDoor.Paths
