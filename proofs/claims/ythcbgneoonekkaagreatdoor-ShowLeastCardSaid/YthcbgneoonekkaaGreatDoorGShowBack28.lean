/-
  The walks of the landed reader's leaf and star. By an AI agent.
  The walk of the landed reader's bracket. By an AI agent.
-/
import Derived.Test.YthcbgneoonekkaaGreatDoorGShowBack26
import Derived.Test.YthcbgneoonekkaaGreatDoorGShowBack27
namespace Go.Proofs.YthcbgneoonekkaaGreatDoor.Parse
open Go.RowKit Go.Proofs.YthcbgneoonekkaaGreatDoor.Ints Go.Proofs.YthcbgneoonekkaaGreatDoor.Lex Go.Proofs.YthcbgneoonekkaaGreatDoor.Tree

structure Fit (M e : Nat) (σ : PS) : Prop where
  good : Good M e σ
  toks : GoodT σ.rest
  made : σ.made ≤ 200
/-- What a step leaves: the reader behind it, or at the wrong token. -/
def StepGot (base g : Nat) (ts : List Tk) (w : World) (x : Except Fail PS) (e : Ending) (w' : World) : Prop := match x with
  | .ok τ => e = .returned (.int .i64 0) ∧ PMemE (Aw none) w' base g ts τ ∧ Fr none base w w'
  | .error (c, p) => c ≠ 0 ∧ e = .returned (.int .i64 (c : Int)) ∧ (∃ τ, GoodT τ.rest ∧ posOf τ.rest = p ∧ PMemE (Aw none) w' base g ts τ) ∧ Fr none base w w'
theorem StepGot.bad {base g c p : Nat} {ts : List Tk} {w w' : World} {τ : PS} (hc : c ≠ 0) (hG : GoodT τ.rest) (hp : posOf τ.rest = p) (h : PMemE (Aw none) w' base g ts τ) (hf : Fr none base w w') : StepGot base g ts w (.error (c, p)) (.returned (.int .i64 (c : Int))) w' := ⟨hc, rfl, ⟨τ, hG, hp, h⟩, hf⟩
theorem low_none (w : World) : Low none w := fun b hb => by cases hb
theorem Fr.of_g {bx : Option Nat} {base g : Nat} {w w' : World} (hg : w.grownBy w' (some g)) (hb : base ≤ g) (hw : base ≤ w.heap.size) (hx : some g ≠ bx) : Fr bx base w w' :=
  (Fr.refl bx base w).grown hg hw (fun k hk => by injection hk with hk; omega) (fun k hk => by injection hk with hk; rw [← hk]; exact hx)
theorem leaf_good {M : Nat} {σ : PS} (h : Good M 0 σ) {t : Tk} {r : List Tk} (hr : σ.rest = t :: r) (n : Nd) (m : Nat) : Good M 1 (putM n 0 { σ with rest := r, made := m }) := by
  have hs := h.size
  rw [hr, List.length_cons] at hs
  have hn := h.need
  refine ⟨h.ents, h.bot, fun z hz => ?_, ?_, ?_⟩
  · show 0 ≤ z ∧ z < (((σ.nodes ++ [_]).length : Nat) : Int)
    rw [List.length_append, List.length_singleton]
    rcases List.mem_cons.1 hz with rfl | hz
    · show (0 : Int) ≤ (σ.nodes.length : Int) ∧ (σ.nodes.length : Int) < ((σ.nodes.length + 1 : Nat) : Int)
      omega
    · have := h.roots z (List.mem_of_mem_drop hz); omega
  · show need σ.opn + 1 = ((σ.nodes.length : Int) :: σ.roots.drop 0).length
    rw [List.length_cons, List.drop_zero]
    omega
  · show σ.opn.length + (σ.nodes ++ [_]).length + r.length ≤ M
    rw [List.length_append, List.length_singleton]
    omega
theorem star_good {M : Nat} {σ : PS} (h : Good M 1 σ) {t : Tk} {r : List Tk} (hr : σ.rest = t :: r) (n : Nd) (m : Nat) : Good M 1 (putM n 1 { σ with rest := r, made := m }) := by
  have hs := h.size
  rw [hr, List.length_cons] at hs
  have hn := h.need
  refine ⟨h.ents, h.bot, fun z hz => ?_, ?_, ?_⟩
  · show 0 ≤ z ∧ z < (((σ.nodes ++ [_]).length : Nat) : Int)
    rw [List.length_append, List.length_singleton]
    rcases List.mem_cons.1 hz with rfl | hz
    · show (0 : Int) ≤ (σ.nodes.length : Int) ∧ (σ.nodes.length : Int) < ((σ.nodes.length + 1 : Nat) : Int)
      omega
    · have := h.roots z (List.mem_of_mem_drop hz); omega
  · show need σ.opn + 1 = ((σ.nodes.length : Int) :: σ.roots.drop 1).length
    rw [List.length_cons, List.length_drop]
    omega
  · show σ.opn.length + (σ.nodes ++ [_]).length + r.length ≤ M
    rw [List.length_append, List.length_singleton]
    omega
theorem next_ok {M e : Nat} {σ : PS} (h : Good M e σ) {t : Tk} {r : List Tk} (hr : σ.rest = t :: r) (m : Nat) : Good M e { σ with rest := r, made := m } := by
  have hs := h.size
  rw [hr, List.length_cons] at hs
  exact ⟨h.ents, h.bot, h.roots, h.need, by show σ.opn.length + σ.nodes.length + r.length ≤ M; omega⟩

set_option maxHeartbeats 8000000 in
theorem landLeaf (base g M : Nat) (ts : List Tk) (σ : PS) (n : Nd) (w : World) (h : PMemE (Aw none) w base g ts σ) (hf : Fit M 0 σ) (hM : M ≤ 5000) (hl : ts.length ≤ 5000) (hk : kindOf σ.rest ≠ 0)
    (hn : small64 n.kind ∧ small64 n.lo ∧ small64 n.hi ∧ n.name.size ≤ maxLen) :
    Calls Tryz.prog 75 #[.pointer (some ⟨g, 0, none⟩), .agg #[.int .i64 n.kind, .string n.name, .int .i64 n.lo, .int .i64 n.hi, .slice none 0 0]] w (StepGot base g ts w (leafM n σ)) := by
  have HM := Lib.hid h
  have HF := Lib.hid hf
  have HL := Lib.hid (And.intro hM hl)
  have HN := Lib.hid hn
  obtain ⟨t, r, hr, -, -, -, -⟩ := hf.toks.split
  have HR := Lib.hid hr
  have HGR := Lib.hid (show GoodT r by have := hf.toks.tail hk; rw [hr] at this; exact this)
  have hb0 := fun o => (Below.refl w.heap.size w).alloc (Nat.le_refl _) o
  have HB0 := Lib.hid hb0
  by_cases hm : σ.made = 200
  · have HE := Lib.hid (show leafM n σ = .error (4, posOf σ.rest) by unfold leafM; rw [make_no hm])
    have HMD := Lib.hid hm
    clear h hf hM hl hk hn hr hb0 hm
    go_enter Tryz.func75, Tryz.ntmps75
    go_wp2_with fail
    refine (landCreate0 base g ts σ _ (HM.out.later (HB0.out _)) HMD.out).mono ?_
    rintro e w1 ⟨rfl, rfl⟩
    go_wp2_with fail
    go_ret
    rw [HE.out]
    exact StepGot.bad (by decide) HF.out.toks rfl (HM.out.later (HB0.out _)) (Fr.later (HB0.out _) HM.out.base)
  · have HE := Lib.hid (show leafM n σ = .ok (endM (putM n 0 { σ with rest := r, made := σ.made + 1 })) by unfold leafM; rw [make_yes hm]; simp only; unfold next; rw [show ({ σ with made := σ.made + 1 } : PS).rest = t :: r from hr]; rfl)
    have HMD := Lib.hid (show σ.made < 200 by have := hf.made; omega)
    clear h hf hM hl hk hn hr hb0 hm
    go_enter Tryz.func75, Tryz.ntmps75
    go_wp2_with fail
    refine (landCreate1 base g ts σ _ (HM.out.later (HB0.out _)) HMD.out).mono ?_
    rintro e w1 ⟨rfl, hm1, hg1⟩
    have hbx := (Blk.new w #[.int .i64 n.kind, .string n.name, .int .i64 n.lo, .int .i64 n.hi, .slice none 0 0] 42 _ rfl).grown hg1 (fun e => by injection e with e; have := HM.out.hg.2; omega)
    have hfr := (Fr.later (bx := none) (HB0.out (.cells #[.int .i64 n.kind, .string n.name, .int .i64 n.lo, .int .i64 n.hi, .slice none 0 0] 42)) HM.out.base).trans (Fr.of_g hg1 HM.out.hg.1 (Nat.le_trans HM.out.base (HB0.out _).size) (fun e => by cases e))
    obtain ⟨tv, ov, nv, rv, SN, hm1⟩ := hm1
    obtain ⟨j, hj⟩ : ∃ j, ts.length - σ.rest.length = j := ⟨_, rfl⟩
    have c1 := hm1.blk.cell 1 rfl
    have f1 := hm1.blk.fz 1 rfl
    rw [hj] at c1
    have hj5 : (j : Int) ≤ 5000 := by have := HL.out.2; omega
    have hj0 : (0 : Int) ≤ (j : Int) := by omega
    have hm2 := hm1.next (σ := { σ with made := σ.made + 1 }) HR.out hj
    have hb2 := hbx.other ⟨g, 1, none⟩ (.int .i64 ((j : Int) + 1)) (fun e => by have := HM.out.hg.2; have e : w.heap.size = g := e; omega)
    have hf2 := hfr.setCell (p := ⟨g, 1, none⟩) HM.out.hg.1 (fun e => by cases e) (.int .i64 ((j : Int) + 1))
    have x0 := hb2.cell 0 rfl
    have x1 := hb2.cell 1 rfl
    have x2 := hb2.cell 2 rfl
    have x3 := hb2.cell 3 rfl
    have x4 := hb2.cell 4 rfl
    have HM2 := Lib.hid hm2
    have HF2 := Lib.hid hf2
    clear hbx hfr hm1 hj hm2 hb2 hf2 hg1
    go_wp2_with fail
    refine (landPut none base g ts { σ with rest := r, made := σ.made + 1 } n 0 _ (low_none _) ⟨_, _, _, _, _, HM2.out⟩ ((next_ok HF.out.good HR.out _).ok HL.out.1 (by omega)) (Nat.zero_le _) HN.out).mono ?_
    rintro e w3 ⟨rfl, hm3, hf3⟩
    have HM3 := Lib.hid hm3
    have HF3 := Lib.hid (HF2.out.trans hf3)
    clear hm3 hf3 x0 x1 x2 x3 x4 c1 f1
    go_wp2_with fail
    refine (landEnd none base g M ts _ _ (low_none _) HM3.out (leaf_good HF.out.good HR.out n _) HL.out.1).mono ?_
    rintro e w4 ⟨rfl, hm4, hf4⟩
    go_wp2_with fail
    go_ret
    rw [HE.out]
    exact ⟨rfl, hm4, HF3.out.trans hf4⟩

set_option maxHeartbeats 8000000 in
theorem landStar (base g M : Nat) (ts : List Tk) (σ : PS) (w : World) (h : PMemE (Aw none) w base g ts σ) (hf : Fit M 1 σ) (hM : M ≤ 5000) (hl : ts.length ≤ 5000) (_hk : kindOf σ.rest ≠ 0) :
    Calls Tryz.prog 73 #[.pointer (some ⟨g, 0, none⟩)] w (StepGot base g ts w (starM σ)) := by
  have HM := Lib.hid h
  have HF := Lib.hid hf
  have HL := Lib.hid (And.intro hM hl)
  obtain ⟨t, r, hr, -, -, -, -⟩ := hf.toks.split
  have HR := Lib.hid hr
  by_cases hm : σ.made = 200
  · have HE := Lib.hid (show starM σ = .error (4, posOf σ.rest) by unfold starM; rw [make_no hm])
    have HMD := Lib.hid hm
    clear h hf hM hl hr hm
    go_enter Tryz.func73, Tryz.ntmps73
    go_wp2_with fail
    refine (landCreate0 base g ts σ _ HM.out HMD.out).mono ?_
    rintro e w1 ⟨rfl, rfl⟩
    go_wp2_with fail
    go_ret
    rw [HE.out]
    exact StepGot.bad (by decide) HF.out.toks rfl HM.out (Fr.refl _ _ _)
  · have HE := Lib.hid (show starM σ = .ok (putM ⟨22, ⟨#[]⟩, 0, 0, []⟩ 1 { σ with rest := r, made := σ.made + 1 }) by unfold starM; rw [make_yes hm]; simp only; unfold next; rw [show ({ σ with made := σ.made + 1 } : PS).rest = t :: r from hr]; rfl)
    have HMD := Lib.hid (show σ.made < 200 by have := hf.made; omega)
    clear h hf hM hl hr hm
    go_enter Tryz.func73, Tryz.ntmps73
    go_wp2_with fail
    refine (landCreate1 base g ts σ _ HM.out HMD.out).mono ?_
    rintro e w1 ⟨rfl, hm1, hg1⟩
    have hfr := Fr.of_g (bx := none) hg1 HM.out.hg.1 HM.out.base (fun e => by cases e)
    obtain ⟨tv, ov, nv, rv, SN, hm1⟩ := hm1
    obtain ⟨j, hj⟩ : ∃ j, ts.length - σ.rest.length = j := ⟨_, rfl⟩
    have c1 := hm1.blk.cell 1 rfl
    have f1 := hm1.blk.fz 1 rfl
    rw [hj] at c1
    have hj5 : (j : Int) ≤ 5000 := by have := HL.out.2; omega
    have hj0 : (0 : Int) ≤ (j : Int) := by omega
    have hm2 := hm1.next (σ := { σ with made := σ.made + 1 }) HR.out hj
    have hf2 := hfr.setCell (p := ⟨g, 1, none⟩) HM.out.hg.1 (fun e => by cases e) (.int .i64 ((j : Int) + 1))
    have HM2 := Lib.hid hm2
    have HF2 := Lib.hid hf2
    clear hfr hm1 hj hm2 hf2 hg1
    go_wp2_with fail
    refine (landPut none base g ts { σ with rest := r, made := σ.made + 1 } ⟨22, ⟨#[]⟩, 0, 0, []⟩ 1 _ (low_none _) ⟨_, _, _, _, _, HM2.out⟩ ((next_ok HF.out.good HR.out _).ok HL.out.1 (by omega)) (by show 1 ≤ σ.roots.length; have := HF.out.good.need; omega) (by unfold small64; exact ⟨by decide, by decide, by decide, Nat.zero_le _⟩)).mono ?_
    rintro e w3 ⟨rfl, hm3, hf3⟩
    go_wp2_with fail
    go_ret
    rw [HE.out]
    exact ⟨rfl, hm3, HF2.out.trans hf3⟩
end Go.Proofs.YthcbgneoonekkaaGreatDoor.Parse

namespace Go.Proofs.YthcbgneoonekkaaGreatDoor.Parse
open Go.RowKit Go.Proofs.YthcbgneoonekkaaGreatDoor.Ints Go.Proofs.YthcbgneoonekkaaGreatDoor.Lex Go.Proofs.YthcbgneoonekkaaGreatDoor.Tree
attribute [local go_sem ↓] Go.wp_at_zero Go.wp_at_succ

theorem one_ents (x : Ent) : ∀ u ∈ [Value.int .i64 (x.kind : Int), .int .i64 x.lo, .int .i64 x.hi, .int .i64 (x.kids : Int), .int .i64 (x.level : Int), .string (Lex.bytes x.closer), .bool x.reg, .int .i64 (x.depth : Int)], u.oneCell' = true := cellsE_one x
/-- What is behind a push. -/
structure PushAt (V : World) (bx : Option Nat) (base g : Nat) (ts : List Tk) (tv nv rv : Value) (SN : List SNd) (q m c : Nat) (σ : PS) (x : Ent) : Prop where
  mem : PMem (Aw bx) V base g ts tv (.slice (some ⟨q, 0, none⟩) (m + 1) c) nv rv SN σ
  len : σ.opn.length = m + 1
  lt : m ≤ 5000
  low : Low bx V
section
variable {V : World} {bx : Option Nat} {base g : Nat} {ts : List Tk} {tv nv rv : Value} {SN : List SNd} {q m c : Nat} {σ : PS} {x : Ent}
theorem PushAt.later {U : World} (h : PushAt V bx base g ts tv nv rv SN q m c σ x) (hb : Below V.heap.size V U) : PushAt U bx base g ts tv nv rv SN q m c σ x := ⟨h.mem.later hb, h.len, h.lt, h.low.mono hb.size⟩
theorem PushAt.row (h : PushAt V bx base g ts tv nv rv SN q m c σ x) : V.ownsRow base 69 8 (.slice (some ⟨q, 0, none⟩) (m + 1) c) (m + 1) (rowE σ.opn.reverse) := by
  have := h.mem.opn
  rw [h.len] at this
  exact this
theorem PushAt.sm (h : PushAt V bx base g ts tv nv rv SN q m c σ x) : m + 1 + 1 ≤ maxLen ∧ (m + 1 + 1) * 72 ≤ 140737488355328 := by
  have : maxLen = 9223372036854775807 := rfl
  have := h.lt
  omega
theorem PushAt.at4 (h : PushAt V bx base g ts tv nv rv SN q m c σ x) {w4 : World} (hg : V.grownBy w4 (Value.slice (some ⟨q, 0, none⟩) (m + 1) c).ownBlock) : w4.cell? ⟨g, 4, none⟩ = some (.slice (some ⟨q, 0, none⟩) (m + 1) c) ∧ w4.frozen? ⟨g, 4, none⟩ = false := by
  have := h.mem.blk.grown hg (fun e => h.mem.og e.symm)
  exact ⟨this.cell 4 rfl, this.fz 4 rfl⟩
theorem PushAt.done (h : PushAt V bx base g ts tv nv rv SN q m c σ x) {w4 : World} {q' cap : Nat} (hown : w4.ownsRow base 69 8 (.slice (some ⟨q', 0, none⟩) (m + 1 + 1) cap) (m + 1 + 1) (rowE σ.opn.reverse ++ cellsE x))
    (hg : V.grownBy w4 (Value.slice (some ⟨q, 0, none⟩) (m + 1) c).ownBlock) (hq : (Value.slice (some ⟨q, 0, none⟩) (m + 1) c).ownBlock = some q' ∨ q' = V.heap.size) :
    PMemE (Aw bx) (w4.setCell ⟨g, 4, none⟩ (.slice (some ⟨q', 0, none⟩) (m + 1 + 1) cap)) base g ts (pushM x σ) ∧ Fr bx base V (w4.setCell ⟨g, 4, none⟩ (.slice (some ⟨q', 0, none⟩) (m + 1 + 1) cap)) := by
  refine ⟨⟨_, _, _, _, _, h.mem.push h.low x (by rw [List.reverse_cons, rowE_snoc]; exact hown) (by rw [List.length_cons, h.len]) hg hq⟩, ?_⟩
  exact ((Fr.refl bx base V).grown hg h.mem.hb (fun b hb => (h.mem.opn.lt b hb).1) (fun b hb => h.mem.so b hb)).setCell (p := ⟨g, 4, none⟩) h.mem.hg h.mem.sg _
end
theorem Fr.any {bx : Option Nat} {base : Nat} {w w' : World} (h : Fr bx base w w') : Fr none base w w' := ⟨h.below, fun b hb => by cases hb⟩
theorem PMemE.any {bx : Option Nat} {w : World} {base g : Nat} {ts : List Tk} {σ : PS} (h : PMemE (Aw bx) w base g ts σ) : PMemE (Aw none) w base g ts σ := h.mono fun _ _ _ e => by cases e
/-- A box is laid. -/
theorem PMemE.boxed {S : Nat → Prop} {w : World} {base g : Nat} {ts : List Tk} {σ : PS} (h : PMemE S w base g ts σ) (o : Obj) : PMemE (Aw (some w.heap.size)) (w.alloc o) base g ts σ :=
  (h.now.later ((Below.refl _ _).alloc (Nat.le_refl _) o)).mono fun b _ hb e => by injection e with e; have hb : b < w.heap.size := hb; omega

set_option maxHeartbeats 8000000 in
set_option maxRecDepth 100000 in
theorem landBracket (base g M : Nat) (ts : List Tk) (σ : PS) (x : Ent) (w : World) (h : PMemE (Aw none) w base g ts σ) (hf : Fit M 0 σ) (hM : M ≤ 5000) (hl : ts.length ≤ 5000) (_hk : kindOf σ.rest ≠ 0) (hd : (topE σ.opn).depth ≤ 40) :
    Calls Tryz.prog 77 #[.pointer (some ⟨g, 0, none⟩), .agg #[.int .i64 (x.kind : Int), .int .i64 x.lo, .int .i64 x.hi, .int .i64 (x.kids : Int), .int .i64 (x.level : Int), .string (Lex.bytes x.closer), .bool x.reg, .int .i64 0]] w (StepGot base g ts w (bracketM x σ)) := by
  obtain ⟨i2, hi2, hv0, hv1, hv2⟩ := info_parts infoEnt
  have HM := Lib.hid h
  have HF := Lib.hid hf
  have HL := Lib.hid (And.intro hM hl)
  obtain ⟨t, r, hr, -, -, -, -⟩ := hf.toks.split
  have HR := Lib.hid hr
  obtain ⟨y, K, hy⟩ := hf.good.split
  have HY := Lib.hid hy
  have hKl : K.length ≤ 5000 := by have := hf.good.size; rw [hy, List.length_cons] at this; omega
  have HK := Lib.hid hKl
  rw [hy] at hd
  have HB0 := Lib.hid (fun o => (Below.refl w.heap.size w).alloc (Nat.le_refl _) o)
  by_cases h40 : y.depth = 40
  · have HE := Lib.hid (show bracketM x σ = .error (3, posOf σ.rest) by unfold bracketM; rw [hy]; exact if_pos h40)
    have h4 : ((y.depth : Int) == 40) = true := by rw [h40]; rfl
    clear h hf hM hl hr hy hKl hd h40
    go_enter Tryz.func77, Tryz.ntmps77
    go_wp2_with fail
    refine (landDeep base g ts σ y K _ (HM.out.later (HB0.out _)) HY.out (by have := HK.out; omega)).mono ?_
    rintro e w1 ⟨rfl, hb1⟩
    have HB1 := Lib.hid ((HB0.out _).trans (hb1.mono (HB0.out _).size))
    clear hb1
    go_wp2_with fail
    go_ret
    rw [HE.out]
    exact StepGot.bad (by decide) HF.out.toks rfl (HM.out.later HB1.out) (Fr.later HB1.out HM.out.base)
  · have HE := Lib.hid (show bracketM x σ = .ok (pushM { x with depth := y.depth + 1 } { σ with rest := r }) by unfold bracketM; rw [if_neg (show ¬ (topE σ.opn).depth = 40 by rw [hy]; exact h40), show (topE σ.opn).depth = y.depth by rw [hy]; rfl]; unfold next; rw [hr]; rfl)
    have h4 : ((y.depth : Int) == 40) = false := beq_eq_false_iff_ne.2 (by omega)
    have hd40 : (y.depth : Int) ≤ 40 := by have : y.depth ≤ 40 := hd; omega
    have q6 := fieldE6 y.kind y.lo y.hi y.kids y.level (Lex.bytes y.closer) y.reg y.depth
    clear h hf hM hl hr hy hKl hd h40
    go_enter Tryz.func77, Tryz.ntmps77
    go_wp2_with fail
    refine (landDeep base g ts σ y K _ (HM.out.later (HB0.out _)) HY.out (by have := HK.out; omega)).mono ?_
    rintro e w1 ⟨rfl, hb1⟩
    have hbx := (Blk.new w #[.int .i64 (x.kind : Int), .int .i64 x.lo, .int .i64 x.hi, .int .i64 (x.kids : Int), .int .i64 (x.level : Int), .string (Lex.bytes x.closer), .bool x.reg, .int .i64 0] 69 _ rfl).later hb1
    have hB1 := (HB0.out (.cells #[.int .i64 (x.kind : Int), .int .i64 x.lo, .int .i64 x.hi, .int .i64 (x.kids : Int), .int .i64 (x.level : Int), .string (Lex.bytes x.closer), .bool x.reg, .int .i64 0] 69)).trans (hb1.mono (HB0.out _).size)
    obtain ⟨tv, ov, nv, rv, SN, hm1⟩ := (HM.out.boxed (.cells #[.int .i64 (x.kind : Int), .int .i64 x.lo, .int .i64 x.hi, .int .i64 (x.kids : Int), .int .i64 (x.level : Int), .string (Lex.bytes x.closer), .bool x.reg, .int .i64 0] 69)).later hb1
    obtain ⟨j, hj⟩ : ∃ j, ts.length - σ.rest.length = j := ⟨_, rfl⟩
    have c1 := hm1.blk.cell 1 rfl
    have f1 := hm1.blk.fz 1 rfl
    rw [hj] at c1
    have hj5 : (j : Int) ≤ 5000 := by have := HL.out.2; omega
    have hj0 : (0 : Int) ≤ (j : Int) := by omega
    have HM2 := Lib.hid (hm1.next HR.out hj)
    have HX2 := Lib.hid (hbx.other ⟨g, 1, none⟩ (.int .i64 ((j : Int) + 1)) (fun e => by have := HM.out.hg.2; have e : w.heap.size = g := e; omega))
    have HF2 := Lib.hid ((Fr.later (bx := none) hB1 HM.out.base).setCell (p := ⟨g, 1, none⟩) HM.out.hg.1 (fun e => by cases e) (.int .i64 ((j : Int) + 1)))
    clear hbx hB1 hm1 hj hb1
    go_wp2_with fail
    refine (landTop base g ts { σ with rest := r } y K _ ⟨_, _, _, _, _, HM2.out⟩ HY.out (by have := HK.out; omega)).mono ?_
    rintro e w3 ⟨rfl, hb3⟩
    have hx3 := HX2.out.later hb3
    have x7 := hx3.cell 7 rfl
    have y7 := hx3.fz 7 rfl
    have hx4 := hx3.set 7 (.int .i64 ((y.depth : Int) + 1)) (by simp)
    have hm4 := (HM2.out.later hb3).far w.heap.size 7 (.int .i64 ((y.depth : Int) + 1)) (fun h => h rfl) HM.out.base
    have hf4 := (HF2.out.trans (Fr.later hb3 (Nat.le_trans HM.out.base HF2.out.below.size))).setCell (p := ⟨w.heap.size, 7, none⟩) HM.out.base (fun e => by cases e) (.int .i64 ((y.depth : Int) + 1))
    go_wp2_with fail
    obtain ⟨V, hV⟩ : ∃ V, w3.setCell ⟨w.heap.size, 7, none⟩ (.int .i64 ((y.depth : Int) + 1)) = V := ⟨_, rfl⟩
    rw [hV] at hx4 hm4 hf4 ⊢
    obtain ⟨q, c, hov, hc, hmx, -⟩ := hm4.top (show ({ σ with rest := r } : PS).opn = y :: K from HY.out)
    subst hov
    obtain ⟨m, hml⟩ : ∃ m, K.length = m := ⟨_, rfl⟩
    rw [hml] at hm4 hc
    have hlow : w.heap.size < V.heap.size := hx4.1
    have HP := Lib.hid (fun o => PushAt.later (U := (V.alloc o).drew) (show PushAt V (some w.heap.size) base g ts tv nv rv SN q m c { σ with rest := r } { x with depth := y.depth + 1 } from ⟨hm4, by show σ.opn.length = m + 1; rw [HY.out, List.length_cons, hml], by rw [← hml]; exact HK.out, fun b hb => by injection hb with hb; rw [← hb]; exact hlow⟩) (((Below.refl _ _).alloc (Nat.le_refl _) o).drew))
    have e4 := hm4.blk.cell 4 rfl
    have a4 := fun o => (hm4.blk.alloc o).cell 4 rfl
    have z0 := hx4.cell 0 rfl
    have z1 := hx4.cell 1 rfl
    have z2 := hx4.cell 2 rfl
    have z3 := hx4.cell 3 rfl
    have z4 := hx4.cell 4 rfl
    have z5 := hx4.cell 5 rfl
    have z6 := hx4.cell 6 rfl
    have z7 := hx4.cell 7 rfl
    have HF4 := Lib.hid hf4
    have hm1' : (m : Int) ≤ 5000 := by have := HK.out; omega
    have HNB := Lib.hid (show (V.alloc (.cells #[.int .i64 (x.kind : Int), .int .i64 x.lo, .int .i64 x.hi, .int .i64 (x.kids : Int), .int .i64 (x.level : Int), .string (Lex.bytes x.closer), .bool x.reg, .int .i64 ((y.depth : Int) + 1)] 69)).drew.heap[V.heap.size]? = some (.cells #[.int .i64 (x.kind : Int), .int .i64 x.lo, .int .i64 x.hi, .int .i64 (x.kids : Int), .int .i64 (x.level : Int), .string (Lex.bytes x.closer), .bool x.reg, .int .i64 ((y.depth : Int) + 1)] 69 (0, 0)) from heap_alloc_new V _)
    clear hx3 hx4 hm4 hf4 hV hb3 hc hmx hml hlow x7 y7 c1 f1
    go_region_law
      (first
        | (refine step_append_lies (w := (V.alloc (.cells #[.int .i64 (x.kind : Int), .int .i64 x.lo, .int .i64 x.hi, .int .i64 (x.kids : Int), .int .i64 (x.level : Int), .string (Lex.bytes x.closer), .bool x.reg, .int .i64 ((y.depth : Int) + 1)] 69)).drew) rfl (.tmp 23) (.tmp 25) 70 rfl base 69 i2 _ 8 72 Tryz.underlying70 hi2 hv0 hv1 hv2 rfl (by decide) (.slice (some ⟨q, 0, none⟩) (m + 1) c) (m + 1) _ (by rfl) (HP.out _).row ⟨V.heap.size, 0, none⟩ 1 1 (cellsE { x with depth := y.depth + 1 }) (by rfl) rfl (World.news_of_block (HNB.out)) (cellsE_one _) (by decide) (HP.out (.cells #[] 3)).sm.1 (HP.out (.cells #[] 3)).sm.2 (HP.out _).mem.hb _ rfl ?_; intro q' cap w5 hown5 hgr5 hq5 hlt5; obtain ⟨k4, f4⟩ := (HP.out _).at4 hgr5))
    all_goals
      go_wp2_with fail
      go_ret
      obtain ⟨hd1, hd2⟩ := (HP.out _).done hown5 hgr5 hq5
      rw [HE.out]
      exact ⟨rfl, hd1.any, (HF4.out.alloc (Nat.le_trans HM.out.base HF4.out.below.size) _).trans hd2.any⟩
end Go.Proofs.YthcbgneoonekkaaGreatDoor.Parse
