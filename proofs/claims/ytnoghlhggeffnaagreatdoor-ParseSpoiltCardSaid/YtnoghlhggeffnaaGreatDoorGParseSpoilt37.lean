/-
  The walk of the landed reader's bracket. By an AI agent.
  The walk of the landed reader's ahead. By an AI agent.
-/
import Derived.Test.YtnoghlhggeffnaaGreatDoorGParseSpoilt36
namespace Go.Proofs.YtnoghlhggeffnaaGreatDoor.Parse
open Go.RowKit Go.Proofs.YtnoghlhggeffnaaGreatDoor.Ints Go.Proofs.YtnoghlhggeffnaaGreatDoor.Lex Go.Proofs.YtnoghlhggeffnaaGreatDoor.Tree
attribute [local go_sem ↓] Go.wp_at_zero Go.wp_at_succ

theorem one_ents (x : Ent) : ∀ u ∈ [Value.int .i64 (x.kind : Int), .int .i64 x.lo, .int .i64 x.hi, .int .i64 (x.kids : Int), .int .i64 (x.level : Int), .string (Lex.bytes x.closer), .bool x.reg, .int .i64 (x.depth : Int)], u.oneCell' = true := cellsE_one x
/-- What is behind a push. -/
structure PushAt (V : World) (bx : Option Nat) (base g : Nat) (ts : List Tk) (tv nv rv : Value) (SN : List SNd) (q m c : Nat) (σ : PS) (x : Ent) : Prop where
  mem : PMem (Aw bx) V base g ts tv (.slice (some ⟨q, 0, none⟩) (m + 1) c) nv rv SN σ
  len : σ.opn.length = m + 1
  lt : m ≤ 5000
  low : Low bx V
section
variable {V : World} {bx : Option Nat} {base g : Nat} {ts : List Tk} {tv nv rv : Value} {SN : List SNd} {q m c : Nat} {σ : PS} {x : Ent}
theorem PushAt.later {U : World} (h : PushAt V bx base g ts tv nv rv SN q m c σ x) (hb : Below V.heap.size V U) : PushAt U bx base g ts tv nv rv SN q m c σ x := ⟨h.mem.later hb, h.len, h.lt, h.low.mono hb.size⟩
theorem PushAt.row (h : PushAt V bx base g ts tv nv rv SN q m c σ x) : V.ownsRow base 68 8 (.slice (some ⟨q, 0, none⟩) (m + 1) c) (m + 1) (rowE σ.opn.reverse) := by
  have := h.mem.opn
  rw [h.len] at this
  exact this
theorem PushAt.sm (h : PushAt V bx base g ts tv nv rv SN q m c σ x) : m + 1 + 1 ≤ maxLen ∧ (m + 1 + 1) * 72 ≤ 140737488355328 := by
  have : maxLen = 9223372036854775807 := rfl
  have := h.lt
  omega
theorem PushAt.at4 (h : PushAt V bx base g ts tv nv rv SN q m c σ x) {w4 : World} (hg : V.grownBy w4 (Value.slice (some ⟨q, 0, none⟩) (m + 1) c).ownBlock) : w4.cell? ⟨g, 4, none⟩ = some (.slice (some ⟨q, 0, none⟩) (m + 1) c) ∧ w4.frozen? ⟨g, 4, none⟩ = false := by
  have := h.mem.blk.grown hg (fun e => h.mem.og e.symm)
  exact ⟨this.cell 4 rfl, this.fz 4 rfl⟩
theorem PushAt.done (h : PushAt V bx base g ts tv nv rv SN q m c σ x) {w4 : World} {q' cap : Nat} (hown : w4.ownsRow base 68 8 (.slice (some ⟨q', 0, none⟩) (m + 1 + 1) cap) (m + 1 + 1) (rowE σ.opn.reverse ++ cellsE x))
    (hg : V.grownBy w4 (Value.slice (some ⟨q, 0, none⟩) (m + 1) c).ownBlock) (hq : (Value.slice (some ⟨q, 0, none⟩) (m + 1) c).ownBlock = some q' ∨ q' = V.heap.size) :
    PMemE (Aw bx) (w4.setCell ⟨g, 4, none⟩ (.slice (some ⟨q', 0, none⟩) (m + 1 + 1) cap)) base g ts (pushM x σ) ∧ Fr bx base V (w4.setCell ⟨g, 4, none⟩ (.slice (some ⟨q', 0, none⟩) (m + 1 + 1) cap)) := by
  refine ⟨⟨_, _, _, _, _, h.mem.push h.low x (by rw [List.reverse_cons, rowE_snoc]; exact hown) (by rw [List.length_cons, h.len]) hg hq⟩, ?_⟩
  exact ((Fr.refl bx base V).grown hg h.mem.hb (fun b hb => (h.mem.opn.lt b hb).1) (fun b hb => h.mem.so b hb)).setCell (p := ⟨g, 4, none⟩) h.mem.hg h.mem.sg _
end
theorem Fr.any {bx : Option Nat} {base : Nat} {w w' : World} (h : Fr bx base w w') : Fr none base w w' := ⟨h.below, fun b hb => by cases hb⟩
theorem PMemE.any {bx : Option Nat} {w : World} {base g : Nat} {ts : List Tk} {σ : PS} (h : PMemE (Aw bx) w base g ts σ) : PMemE (Aw none) w base g ts σ := h.mono fun _ _ _ e => by cases e
/-- A box is laid. -/
theorem PMemE.boxed {S : Nat → Prop} {w : World} {base g : Nat} {ts : List Tk} {σ : PS} (h : PMemE S w base g ts σ) (o : Obj) : PMemE (Aw (some w.heap.size)) (w.alloc o) base g ts σ :=
  (h.now.later ((Below.refl _ _).alloc (Nat.le_refl _) o)).mono fun b _ hb e => by injection e with e; have hb : b < w.heap.size := hb; omega

set_option maxHeartbeats 8000000 in
set_option maxRecDepth 100000 in
theorem landBracket (base g M : Nat) (ts : List Tk) (σ : PS) (x : Ent) (w : World) (h : PMemE (Aw none) w base g ts σ) (hf : Fit M 0 σ) (hM : M ≤ 5000) (hl : ts.length ≤ 5000) (_hk : kindOf σ.rest ≠ 0) (hd : (topE σ.opn).depth ≤ 40) :
    Calls Tryz.prog 88 #[.pointer (some ⟨g, 0, none⟩), .agg #[.int .i64 (x.kind : Int), .int .i64 x.lo, .int .i64 x.hi, .int .i64 (x.kids : Int), .int .i64 (x.level : Int), .string (Lex.bytes x.closer), .bool x.reg, .int .i64 0]] w (StepGot base g ts w (bracketM x σ)) := by
  obtain ⟨i2, hi2, hv0, hv1, hv2⟩ := info_parts infoEnt
  have HM := Lib.hid h
  have HF := Lib.hid hf
  have HL := Lib.hid (And.intro hM hl)
  obtain ⟨t, r, hr, -, -, -, -⟩ := hf.toks.split
  have HR := Lib.hid hr
  obtain ⟨y, K, hy⟩ := hf.good.split
  have HY := Lib.hid hy
  have hKl : K.length ≤ 5000 := by have := hf.good.size; rw [hy, List.length_cons] at this; omega
  have HK := Lib.hid hKl
  rw [hy] at hd
  have HB0 := Lib.hid (fun o => (Below.refl w.heap.size w).alloc (Nat.le_refl _) o)
  by_cases h40 : y.depth = 40
  · have HE := Lib.hid (show bracketM x σ = .error (3, posOf σ.rest) by unfold bracketM; rw [hy]; exact if_pos h40)
    have h4 : ((y.depth : Int) == 40) = true := by rw [h40]; rfl
    clear h hf hM hl hr hy hKl hd h40
    go_enter Tryz.func88, Tryz.ntmps88
    go_wp2_with fail
    refine (landDeep base g ts σ y K _ (HM.out.later (HB0.out _)) HY.out (by have := HK.out; omega)).mono ?_
    rintro e w1 ⟨rfl, hb1⟩
    have HB1 := Lib.hid ((HB0.out _).trans (hb1.mono (HB0.out _).size))
    clear hb1
    go_wp2_with fail
    go_ret
    rw [HE.out]
    exact StepGot.bad (by decide) HF.out.toks rfl (HM.out.later HB1.out) (Fr.later HB1.out HM.out.base)
  · have HE := Lib.hid (show bracketM x σ = .ok (pushM { x with depth := y.depth + 1 } { σ with rest := r }) by unfold bracketM; rw [if_neg (show ¬ (topE σ.opn).depth = 40 by rw [hy]; exact h40), show (topE σ.opn).depth = y.depth by rw [hy]; rfl]; unfold next; rw [hr]; rfl)
    have h4 : ((y.depth : Int) == 40) = false := beq_eq_false_iff_ne.2 (by omega)
    have hd40 : (y.depth : Int) ≤ 40 := by have : y.depth ≤ 40 := hd; omega
    have q6 := fieldE6 y.kind y.lo y.hi y.kids y.level (Lex.bytes y.closer) y.reg y.depth
    clear h hf hM hl hr hy hKl hd h40
    go_enter Tryz.func88, Tryz.ntmps88
    go_wp2_with fail
    refine (landDeep base g ts σ y K _ (HM.out.later (HB0.out _)) HY.out (by have := HK.out; omega)).mono ?_
    rintro e w1 ⟨rfl, hb1⟩
    have hbx := (Blk.new w #[.int .i64 (x.kind : Int), .int .i64 x.lo, .int .i64 x.hi, .int .i64 (x.kids : Int), .int .i64 (x.level : Int), .string (Lex.bytes x.closer), .bool x.reg, .int .i64 0] 68 _ rfl).later hb1
    have hB1 := (HB0.out (.cells #[.int .i64 (x.kind : Int), .int .i64 x.lo, .int .i64 x.hi, .int .i64 (x.kids : Int), .int .i64 (x.level : Int), .string (Lex.bytes x.closer), .bool x.reg, .int .i64 0] 68)).trans (hb1.mono (HB0.out _).size)
    obtain ⟨tv, ov, nv, rv, SN, hm1⟩ := (HM.out.boxed (.cells #[.int .i64 (x.kind : Int), .int .i64 x.lo, .int .i64 x.hi, .int .i64 (x.kids : Int), .int .i64 (x.level : Int), .string (Lex.bytes x.closer), .bool x.reg, .int .i64 0] 68)).later hb1
    obtain ⟨j, hj⟩ : ∃ j, ts.length - σ.rest.length = j := ⟨_, rfl⟩
    have c1 := hm1.blk.cell 1 rfl
    have f1 := hm1.blk.fz 1 rfl
    rw [hj] at c1
    have hj5 : (j : Int) ≤ 5000 := by have := HL.out.2; omega
    have hj0 : (0 : Int) ≤ (j : Int) := by omega
    have HM2 := Lib.hid (hm1.next HR.out hj)
    have HX2 := Lib.hid (hbx.other ⟨g, 1, none⟩ (.int .i64 ((j : Int) + 1)) (fun e => by have := HM.out.hg.2; have e : w.heap.size = g := e; omega))
    have HF2 := Lib.hid ((Fr.later (bx := none) hB1 HM.out.base).setCell (p := ⟨g, 1, none⟩) HM.out.hg.1 (fun e => by cases e) (.int .i64 ((j : Int) + 1)))
    clear hbx hB1 hm1 hj hb1
    go_wp2_with fail
    refine (landTop base g ts { σ with rest := r } y K _ ⟨_, _, _, _, _, HM2.out⟩ HY.out (by have := HK.out; omega)).mono ?_
    rintro e w3 ⟨rfl, hb3⟩
    have hx3 := HX2.out.later hb3
    have x7 := hx3.cell 7 rfl
    have y7 := hx3.fz 7 rfl
    have hx4 := hx3.set 7 (.int .i64 ((y.depth : Int) + 1)) (by simp)
    have hm4 := (HM2.out.later hb3).far w.heap.size 7 (.int .i64 ((y.depth : Int) + 1)) (fun h => h rfl) HM.out.base
    have hf4 := (HF2.out.trans (Fr.later hb3 (Nat.le_trans HM.out.base HF2.out.below.size))).setCell (p := ⟨w.heap.size, 7, none⟩) HM.out.base (fun e => by cases e) (.int .i64 ((y.depth : Int) + 1))
    go_wp2_with fail
    obtain ⟨V, hV⟩ : ∃ V, w3.setCell ⟨w.heap.size, 7, none⟩ (.int .i64 ((y.depth : Int) + 1)) = V := ⟨_, rfl⟩
    rw [hV] at hx4 hm4 hf4 ⊢
    obtain ⟨q, c, hov, hc, hmx, -⟩ := hm4.top (show ({ σ with rest := r } : PS).opn = y :: K from HY.out)
    subst hov
    obtain ⟨m, hml⟩ : ∃ m, K.length = m := ⟨_, rfl⟩
    rw [hml] at hm4 hc
    have hlow : w.heap.size < V.heap.size := hx4.1
    have HP := Lib.hid (fun o => PushAt.later (U := (V.alloc o).drew) (show PushAt V (some w.heap.size) base g ts tv nv rv SN q m c { σ with rest := r } { x with depth := y.depth + 1 } from ⟨hm4, by show σ.opn.length = m + 1; rw [HY.out, List.length_cons, hml], by rw [← hml]; exact HK.out, fun b hb => by injection hb with hb; rw [← hb]; exact hlow⟩) (((Below.refl _ _).alloc (Nat.le_refl _) o).drew))
    have e4 := hm4.blk.cell 4 rfl
    have a4 := fun o => (hm4.blk.alloc o).cell 4 rfl
    have z0 := hx4.cell 0 rfl
    have z1 := hx4.cell 1 rfl
    have z2 := hx4.cell 2 rfl
    have z3 := hx4.cell 3 rfl
    have z4 := hx4.cell 4 rfl
    have z5 := hx4.cell 5 rfl
    have z6 := hx4.cell 6 rfl
    have z7 := hx4.cell 7 rfl
    have HF4 := Lib.hid hf4
    have hm1' : (m : Int) ≤ 5000 := by have := HK.out; omega
    have HNB := Lib.hid (show (V.alloc (.cells #[.int .i64 (x.kind : Int), .int .i64 x.lo, .int .i64 x.hi, .int .i64 (x.kids : Int), .int .i64 (x.level : Int), .string (Lex.bytes x.closer), .bool x.reg, .int .i64 ((y.depth : Int) + 1)] 68)).drew.heap[V.heap.size]? = some (.cells #[.int .i64 (x.kind : Int), .int .i64 x.lo, .int .i64 x.hi, .int .i64 (x.kids : Int), .int .i64 (x.level : Int), .string (Lex.bytes x.closer), .bool x.reg, .int .i64 ((y.depth : Int) + 1)] 68 (0, 0)) from heap_alloc_new V _)
    clear hx3 hx4 hm4 hf4 hV hb3 hc hmx hml hlow x7 y7 c1 f1
    go_region_law
      (first
        | (refine step_append_lies (w := (V.alloc (.cells #[.int .i64 (x.kind : Int), .int .i64 x.lo, .int .i64 x.hi, .int .i64 (x.kids : Int), .int .i64 (x.level : Int), .string (Lex.bytes x.closer), .bool x.reg, .int .i64 ((y.depth : Int) + 1)] 68)).drew) rfl (.tmp 23) (.tmp 25) 69 rfl base 68 i2 _ 8 72 Tryz.underlying69 hi2 hv0 hv1 hv2 rfl (by decide) (.slice (some ⟨q, 0, none⟩) (m + 1) c) (m + 1) _ (by rfl) (HP.out _).row ⟨V.heap.size, 0, none⟩ 1 1 (cellsE { x with depth := y.depth + 1 }) (by rfl) rfl (World.news_of_block (HNB.out)) (cellsE_one _) (by decide) (HP.out (.cells #[] 3)).sm.1 (HP.out (.cells #[] 3)).sm.2 (HP.out _).mem.hb _ rfl ?_; intro q' cap w5 hown5 hgr5 hq5 hlt5; obtain ⟨k4, f4⟩ := (HP.out _).at4 hgr5))
    all_goals
      go_wp2_with fail
      go_ret
      obtain ⟨hd1, hd2⟩ := (HP.out _).done hown5 hgr5 hq5
      rw [HE.out]
      exact ⟨rfl, hd1.any, (HF4.out.alloc (Nat.le_trans HM.out.base HF4.out.below.size) _).trans hd2.any⟩
end Go.Proofs.YtnoghlhggeffnaaGreatDoor.Parse

namespace Go.Proofs.YtnoghlhggeffnaaGreatDoor.Parse
open Go.RowKit Go.Proofs.YtnoghlhggeffnaaGreatDoor.Ints Go.Proofs.YtnoghlhggeffnaaGreatDoor.Lex Go.Proofs.YtnoghlhggeffnaaGreatDoor.Tree
attribute [local go_sem ↓] Go.wp_at_zero Go.wp_at_succ

theorem landSpanN (base g : Nat) (ts : List Tk) (σ : PS) (k : Nat) (w : World) (h : PMemE (Aw none) w base g ts σ) (hl : ts.length ≤ 5000) (hG : GoodT σ.rest) :
    Calls Tryz.prog 104 #[.pointer (some ⟨g, 0, none⟩), .int .i64 (k : Int)] w (fun e w' => match spanM k σ.rest with
      | .ok (lo, hi, r) => e = .returned (.tuple #[.agg #[.int .i64 lo, .int .i64 hi], .int .i64 0]) ∧ PMemE (Aw none) w' base g ts { σ with rest := r } ∧ Fr none base w w'
      | .error (c, p) => c = 2 ∧ e = .returned (.tuple #[.agg #[.int .i64 0, .int .i64 0], .int .i64 2]) ∧ (∃ q, GoodT q ∧ posOf q = p ∧ PMemE (Aw none) w' base g ts { σ with rest := q }) ∧ Fr none base w w') := by
  refine (landSpan base g ts σ k w (h.mono fun _ _ _ => trivial) hl hG).mono fun e w' => ?_
  unfold SpanGot
  cases spanM k σ.rest with
  | error x =>
    rintro ⟨h1, h2, q, h3, h4, h5, h6⟩
    exact ⟨h1, h2, ⟨q, h3, h4, h5.mono (fun _ _ _ e => by cases e)⟩, Fr.of_g h6 h.hg.1 h.base (fun e => by cases e)⟩
  | ok x =>
    rintro ⟨h1, h2, h3⟩
    exact ⟨h1, h2.mono (fun _ _ _ e => by cases e), Fr.of_g h3 h.hg.1 h.base (fun e => by cases e)⟩
theorem undrew {B : Nat} {a w : World} (h : Below B a.drew w) : Below B a w := ⟨h.os, h.tape, h.output, h.size, h.block⟩

set_option maxHeartbeats 16000000 in
set_option maxRecDepth 100000 in
theorem landAhead (base g M : Nat) (ts : List Tk) (σ : PS) (k : Nat) (w : World) (h : PMemE (Aw none) w base g ts σ) (hf : Fit M 0 σ) (hM : M ≤ 5000) (hl : ts.length ≤ 5000) (hk : k ≠ 0 → kindOf σ.rest ≠ 0) (hd : (topE σ.opn).depth ≤ 40) :
    Calls Tryz.prog 87 #[.pointer (some ⟨g, 0, none⟩), .int .i64 (k : Int)] w (StepGot base g ts w (aheadM k σ)) := by
  obtain ⟨i2, hi2, hv0, hv1, hv2⟩ := info_parts infoEnt
  have HM := Lib.hid h
  have HF := Lib.hid hf
  have HL := Lib.hid (And.intro hM hl)
  obtain ⟨t, r, hr, -, -, -, -⟩ := hf.toks.split
  have HR := Lib.hid hr
  obtain ⟨y, K, hy⟩ := hf.good.split
  have HY := Lib.hid hy
  have hKl : K.length ≤ 5000 := by have := hf.good.size; rw [hy, List.length_cons] at this; omega
  have HK := Lib.hid hKl
  rw [hy] at hd
  by_cases hk0 : k = 0
  · have HE := Lib.hid (show aheadM k σ = .error (2, posOf σ.rest) by unfold aheadM; rw [if_pos hk0])
    subst hk0
    clear h hf hM hl hk hr hy hKl hd
    go_enter Tryz.func87, Tryz.ntmps87
    go_wp2_with fail
    go_ret
    rw [HE.out]
    exact StepGot.bad (by decide) HF.out.toks rfl HM.out (Fr.refl _ _ _)
  · have hkb : ((k : Int) == 0) = false := beq_eq_false_iff_ne.2 (by omega)
    by_cases h40 : y.depth = 40
    · have HE := Lib.hid (show aheadM k σ = .error (3, posOf σ.rest) by unfold aheadM; rw [if_neg hk0, hy]; exact if_pos h40)
      have h4 : ((y.depth : Int) == 40) = true := by rw [h40]; rfl
      clear h hf hM hl hk hr hy hKl hd h40 hk0
      go_enter Tryz.func87, Tryz.ntmps87
      go_wp2_with fail
      refine (landDeep base g ts σ y K _ HM.out HY.out (by have := HK.out; omega)).mono ?_
      rintro e w1 ⟨rfl, hb1⟩
      have HB1 := Lib.hid hb1
      clear hb1
      go_wp2_with fail
      go_ret
      rw [HE.out]
      exact StepGot.bad (by decide) HF.out.toks rfl (HM.out.later HB1.out) (Fr.later HB1.out HM.out.base)
    · have h4 : ((y.depth : Int) == 40) = false := beq_eq_false_iff_ne.2 (by omega)
      have hd40 : (y.depth : Int) ≤ 40 := by have : y.depth ≤ 40 := hd; omega
      have hne : ¬ (topE σ.opn).depth = 40 := by rw [hy]; exact h40
      by_cases hm : σ.made = 200
      · have HE := Lib.hid (show aheadM k σ = .error (4, posOf σ.rest) by unfold aheadM; rw [if_neg hk0, if_neg hne, make_no hm])
        have HMD := Lib.hid hm
        clear h hf hM hl hk hr hy hKl hd h40 hk0 hne hm
        go_enter Tryz.func87, Tryz.ntmps87
        go_wp2_with fail
        refine (landDeep base g ts σ y K _ HM.out HY.out (by have := HK.out; omega)).mono ?_
        rintro e w1 ⟨rfl, hb1⟩
        have HB1 := Lib.hid hb1
        clear hb1
        go_wp2_with fail
        refine (landCreate0 base g ts σ _ (HM.out.later HB1.out) HMD.out).mono ?_
        rintro e w2 ⟨rfl, rfl⟩
        go_wp2_with fail
        go_ret
        rw [HE.out]
        exact StepGot.bad (by decide) HF.out.toks rfl (HM.out.later HB1.out) (Fr.later HB1.out HM.out.base)
      · have HGR := Lib.hid (show GoodT r by have := hf.toks.tail (hk hk0); rw [hr] at this; exact this)
        have HE := Lib.hid (show aheadM k σ = (match spanM k r with | .error e => .error e | .ok (lo, hi, q) => .ok (pushM ⟨k, lo, hi, 1, 5, [], false, y.depth + 1⟩ { σ with rest := q, made := σ.made + 1 })) by
          unfold aheadM; rw [if_neg hk0, if_neg hne, make_yes hm]; simp only; rw [hr, hy]; rfl)
        have HMD := Lib.hid (show σ.made < 200 by have := hf.made; omega)
        have q6 := fieldE6 y.kind y.lo y.hi y.kids y.level (Lex.bytes y.closer) y.reg y.depth
        rcases hs : spanM k r with ⟨c, p⟩ | ⟨lo, hi, q⟩
        · have HS := Lib.hid hs
          rw [hs] at HE
          clear h hf hM hl hk hr hy hKl hd h40 hk0 hne hm hs
          go_enter Tryz.func87, Tryz.ntmps87
          go_wp2_with fail
          refine (landDeep base g ts σ y K _ HM.out HY.out (by have := HK.out; omega)).mono ?_
          rintro e w1 ⟨rfl, hb1⟩
          have HB1 := Lib.hid hb1
          clear hb1
          go_wp2_with fail
          refine (landCreate1 base g ts σ _ (HM.out.later HB1.out) HMD.out).mono ?_
          rintro e w2 ⟨rfl, hm2, hg2⟩
          have hf2 := (Fr.later (bx := none) HB1.out HM.out.base).trans (Fr.of_g hg2 HM.out.hg.1 (Nat.le_trans HM.out.base HB1.out.size) (fun e => by cases e))
          obtain ⟨tv, ov, nv, rv, SN, hm2⟩ := hm2
          obtain ⟨j, hj⟩ : ∃ j, ts.length - σ.rest.length = j := ⟨_, rfl⟩
          have c1 := hm2.blk.cell 1 rfl
          have f1 := hm2.blk.fz 1 rfl
          rw [hj] at c1
          have hj5 : (j : Int) ≤ 5000 := by have := HL.out.2; omega
          have hj0 : (0 : Int) ≤ (j : Int) := by omega
          have HM3 := Lib.hid (hm2.next (σ := { σ with made := σ.made + 1 }) HR.out hj)
          have HF3 := Lib.hid (hf2.setCell (p := ⟨g, 1, none⟩) HM.out.hg.1 (fun e => by cases e) (.int .i64 ((j : Int) + 1)))
          clear hf2 hm2 hg2 hj
          go_wp2_with fail
          refine (landSpanN base g ts { σ with rest := r, made := σ.made + 1 } k _ ⟨_, _, _, _, _, HM3.out⟩ HL.out.2 HGR.out).mono ?_
          rw [show ({ σ with rest := r, made := σ.made + 1 } : PS).rest = r from rfl, HS.out]
          rintro e w4 ⟨hc, rfl, ⟨q, hq1, hq2, hm4⟩, hf4⟩
          have HM4 := Lib.hid hm4
          have HF4 := Lib.hid (HF3.out.trans hf4)
          have HQ := Lib.hid (And.intro hc (And.intro hq1 hq2))
          clear hc hq1 hq2 hm4 hf4
          go_wp2_with fail
          go_ret
          rw [HE.out]
          have hb5 := (Below.refl w4.heap.size w4).alloc (Nat.le_refl _) (.cells #[.int .i64 0, .int .i64 0] 33)
          refine ⟨by rw [HQ.out.1]; decide, by rw [HQ.out.1]; rfl, ⟨_, HQ.out.2.1, HQ.out.2.2, HM4.out.later hb5⟩, HF4.out.trans (Fr.later hb5 (Nat.le_trans HM.out.base HF4.out.below.size))⟩
        · have HS := Lib.hid hs
          have HSQ := Lib.hid (span_le hs)
          rw [hs] at HE
          clear h hf hM hl hk hr hy hKl hd h40 hk0 hne hm hs
          go_enter Tryz.func87, Tryz.ntmps87
          go_wp2_with fail
          refine (landDeep base g ts σ y K _ HM.out HY.out (by have := HK.out; omega)).mono ?_
          rintro e w1 ⟨rfl, hb1⟩
          have HB1 := Lib.hid hb1
          clear hb1
          go_wp2_with fail
          refine (landCreate1 base g ts σ _ (HM.out.later HB1.out) HMD.out).mono ?_
          rintro e w2 ⟨rfl, hm2, hg2⟩
          have hf2 := (Fr.later (bx := none) HB1.out HM.out.base).trans (Fr.of_g hg2 HM.out.hg.1 (Nat.le_trans HM.out.base HB1.out.size) (fun e => by cases e))
          obtain ⟨tv, ov, nv, rv, SN, hm2⟩ := hm2
          obtain ⟨j, hj⟩ : ∃ j, ts.length - σ.rest.length = j := ⟨_, rfl⟩
          have c1 := hm2.blk.cell 1 rfl
          have f1 := hm2.blk.fz 1 rfl
          rw [hj] at c1
          have hj5 : (j : Int) ≤ 5000 := by have := HL.out.2; omega
          have hj0 : (0 : Int) ≤ (j : Int) := by omega
          have HM3 := Lib.hid (hm2.next (σ := { σ with made := σ.made + 1 }) HR.out hj)
          have HF3 := Lib.hid (hf2.setCell (p := ⟨g, 1, none⟩) HM.out.hg.1 (fun e => by cases e) (.int .i64 ((j : Int) + 1)))
          clear hf2 hm2 hg2 hj
          go_wp2_with fail
          refine (landSpanN base g ts { σ with rest := r, made := σ.made + 1 } k _ ⟨_, _, _, _, _, HM3.out⟩ HL.out.2 HGR.out).mono ?_
          rw [show ({ σ with rest := r, made := σ.made + 1 } : PS).rest = r from rfl, HS.out]
          rintro e w4 ⟨rfl, hm4, hf4⟩
          clear c1 f1
          go_wp2_with fail
          have hb5 := (Below.refl w4.heap.size w4).alloc (Nat.le_refl _) (.cells #[.int .i64 lo, .int .i64 hi] 33)
          obtain ⟨tv5, ov5, nv5, rv5, SN5, hm5⟩ := hm4.later hb5
          have hf5 := (HF3.out.trans hf4).trans (Fr.later hb5 (Nat.le_trans HM.out.base (HF3.out.trans hf4).below.size))
          have hx5 := Blk.new w4 #[.int .i64 lo, .int .i64 hi] 33 _ rfl
          obtain ⟨V, hV⟩ : ∃ V, w4.alloc (.cells #[.int .i64 lo, .int .i64 hi] 33) = V := ⟨_, rfl⟩
          obtain ⟨B, hB⟩ : ∃ B, w4.heap.size = B := ⟨_, rfl⟩
          rw [hV] at hm5 hf5 hx5 ⊢
          rw [hB] at hx5 ⊢
          obtain ⟨q2, c, hov, hc, hmx, -⟩ := hm5.top (show ({ σ with rest := q, made := σ.made + 1 } : PS).opn = y :: K from HY.out)
          subst hov
          obtain ⟨m, hml⟩ : ∃ m, K.length = m := ⟨_, rfl⟩
          rw [hml] at hm5
          have HP := Lib.hid (show PushAt V none base g ts tv5 nv5 rv5 SN5 q2 m c { σ with rest := q, made := σ.made + 1 } ⟨k, lo, hi, 1, 5, [], false, y.depth + 1⟩ from ⟨hm5, by show σ.opn.length = m + 1; rw [HY.out, List.length_cons, hml], by rw [← hml]; exact HK.out, low_none _⟩)
          have HX5 := Lib.hid hx5
          have HF5 := Lib.hid hf5
          have z0 := hx5.cell 0 rfl
          have z1 := hx5.cell 1 rfl
          have e4 := hm5.blk.cell 4 rfl
          have hm1' : (m : Int) ≤ 5000 := by have := HK.out; omega
          have hwr : IntKind.i64.wrap ((y.depth : Int) + 1) = (y.depth : Int) + 1 := IntWalk.i64_in _ (by omega)
          have HTOP := Lib.hid (fun W (hW : Below V.heap.size V W) => landTop base g ts { σ with rest := q, made := σ.made + 1 } y K W ⟨_, _, _, _, _, hm5.later hW⟩ HY.out (by have := HK.out; omega))
          clear hm4 hf4 hb5 hm5 hf5 hx5 hV hB hc hmx hml
          go_wp2_with fail
          go_region_law
            (first
              | (refine step_append_lies (w := w7.alloc (.cells #[.int .i64 (k : Int), .int .i64 lo, .int .i64 hi, .int .i64 1, .int .i64 5, .string { data := #[] }, .bool false, .int .i64 ((y.depth : Int) + 1)] 68)) rfl (.tmp 37) (.tmp 45) 69 rfl base 68 i2 _ 8 72 Tryz.underlying69 hi2 hv0 hv1 hv2 rfl (by decide) (.slice (some ⟨q2, 0, none⟩) (m + 1) c) (m + 1) _ (by rfl) (HPW.out _).row ⟨w7.heap.size, 0, none⟩ 1 1 (cellsE ⟨k, lo, hi, 1, 5, [], false, y.depth + 1⟩) (by rfl) rfl (World.news_of_block (HNW.out)) (cellsE_one _) (by decide) (HPW.out (.cells #[] 3)).sm.1 (HPW.out (.cells #[] 3)).sm.2 (HPW.out _).mem.hb _ rfl ?_; intro q' cap w9 hown9 hgr9 hq9 hlt9; obtain ⟨k4, f4⟩ := (HPW.out _).at4 hgr9)
              | (go_simp; go_wp2_with (go_at_call 69; refine (HTOP.out _ (Below.refl _ _).drew).mono ?_; rintro e w7 ⟨rfl, hb7⟩; have hb8 := undrew hb7; have HPW := Lib.hid (fun o => HP.out.later (hb8.alloc hb8.size o)); have HNW := Lib.hid (heap_alloc_new w7 (.cells #[.int .i64 (k : Int), .int .i64 lo, .int .i64 hi, .int .i64 1, .int .i64 5, .string { data := #[] }, .bool false, .int .i64 ((y.depth : Int) + 1)] 68)); have HF7 := Lib.hid (HF5.out.trans (Fr.later hb8 (Nat.le_trans HM.out.base HF5.out.below.size))); have y4 := (HP.out.later hb8).mem.blk.cell 4 rfl; have a4 := fun o => ((HP.out.later hb8).mem.blk.alloc o).cell 4 rfl; have z0' := (HX5.out.later hb8).cell 0 rfl; have z1' := (HX5.out.later hb8).cell 1 rfl; clear hb7 hb8)))
          all_goals
            go_wp2_with fail
            go_ret
            obtain ⟨hd1, hd2⟩ := (HPW.out _).done hown9 hgr9 hq9
            rw [HE.out]
            exact ⟨rfl, hd1, (HF7.out.trans (Fr.later ((Below.refl _ _).alloc (Nat.le_refl _) _) (Nat.le_trans HM.out.base HF7.out.below.size))).trans hd2⟩
end Go.Proofs.YtnoghlhggeffnaaGreatDoor.Parse
