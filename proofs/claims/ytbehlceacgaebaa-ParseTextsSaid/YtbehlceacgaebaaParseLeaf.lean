/-
  The walks of the landed reader's leaf and star. By an AI agent.
-/
import Derived.Test.YtbehlceacgaebaaParseFin
import Derived.Test.YtbehlceacgaebaaParseSpan
namespace Go.Proofs.Ytbehlceacgaebaa.Parse
open Go.RowKit Go.Proofs.Ytbehlceacgaebaa.Ints Go.Proofs.Ytbehlceacgaebaa.Lex Go.Proofs.Ytbehlceacgaebaa.Tree

structure Fit (M e : Nat) (σ : PS) : Prop where
  good : Good M e σ
  toks : GoodT σ.rest
  made : σ.made ≤ 200
/-- What a step leaves: the reader behind it, or at the wrong token. -/
def StepGot (base g : Nat) (ts : List Tk) (w : World) (x : Except Fail PS) (e : Ending) (w' : World) : Prop := match x with
  | .ok τ => e = .returned (.int .i64 0) ∧ PMemE (Aw none) w' base g ts τ ∧ Fr none base w w'
  | .error (c, p) => c ≠ 0 ∧ e = .returned (.int .i64 (c : Int)) ∧ (∃ τ, GoodT τ.rest ∧ posOf τ.rest = p ∧ PMemE (Aw none) w' base g ts τ) ∧ Fr none base w w'
theorem StepGot.bad {base g c p : Nat} {ts : List Tk} {w w' : World} {τ : PS} (hc : c ≠ 0) (hG : GoodT τ.rest) (hp : posOf τ.rest = p) (h : PMemE (Aw none) w' base g ts τ) (hf : Fr none base w w') : StepGot base g ts w (.error (c, p)) (.returned (.int .i64 (c : Int))) w' := ⟨hc, rfl, ⟨τ, hG, hp, h⟩, hf⟩
theorem low_none (w : World) : Low none w := fun b hb => by cases hb
theorem Fr.of_g {bx : Option Nat} {base g : Nat} {w w' : World} (hg : w.grownBy w' (some g)) (hb : base ≤ g) (hw : base ≤ w.heap.size) (hx : some g ≠ bx) : Fr bx base w w' :=
  (Fr.refl bx base w).grown hg hw (fun k hk => by injection hk with hk; omega) (fun k hk => by injection hk with hk; rw [← hk]; exact hx)
theorem leaf_good {M : Nat} {σ : PS} (h : Good M 0 σ) {t : Tk} {r : List Tk} (hr : σ.rest = t :: r) (n : Nd) (m : Nat) : Good M 1 (putM n 0 { σ with rest := r, made := m }) := by
  have hs := h.size
  rw [hr, List.length_cons] at hs
  have hn := h.need
  refine ⟨h.ents, h.bot, fun z hz => ?_, ?_, ?_⟩
  · show 0 ≤ z ∧ z < (((σ.nodes ++ [_]).length : Nat) : Int)
    rw [List.length_append, List.length_singleton]
    rcases List.mem_cons.1 hz with rfl | hz
    · show (0 : Int) ≤ (σ.nodes.length : Int) ∧ (σ.nodes.length : Int) < ((σ.nodes.length + 1 : Nat) : Int)
      omega
    · have := h.roots z (List.mem_of_mem_drop hz); omega
  · show need σ.opn + 1 = ((σ.nodes.length : Int) :: σ.roots.drop 0).length
    rw [List.length_cons, List.drop_zero]
    omega
  · show σ.opn.length + (σ.nodes ++ [_]).length + r.length ≤ M
    rw [List.length_append, List.length_singleton]
    omega
theorem star_good {M : Nat} {σ : PS} (h : Good M 1 σ) {t : Tk} {r : List Tk} (hr : σ.rest = t :: r) (n : Nd) (m : Nat) : Good M 1 (putM n 1 { σ with rest := r, made := m }) := by
  have hs := h.size
  rw [hr, List.length_cons] at hs
  have hn := h.need
  refine ⟨h.ents, h.bot, fun z hz => ?_, ?_, ?_⟩
  · show 0 ≤ z ∧ z < (((σ.nodes ++ [_]).length : Nat) : Int)
    rw [List.length_append, List.length_singleton]
    rcases List.mem_cons.1 hz with rfl | hz
    · show (0 : Int) ≤ (σ.nodes.length : Int) ∧ (σ.nodes.length : Int) < ((σ.nodes.length + 1 : Nat) : Int)
      omega
    · have := h.roots z (List.mem_of_mem_drop hz); omega
  · show need σ.opn + 1 = ((σ.nodes.length : Int) :: σ.roots.drop 1).length
    rw [List.length_cons, List.length_drop]
    omega
  · show σ.opn.length + (σ.nodes ++ [_]).length + r.length ≤ M
    rw [List.length_append, List.length_singleton]
    omega
theorem next_ok {M e : Nat} {σ : PS} (h : Good M e σ) {t : Tk} {r : List Tk} (hr : σ.rest = t :: r) (m : Nat) : Good M e { σ with rest := r, made := m } := by
  have hs := h.size
  rw [hr, List.length_cons] at hs
  exact ⟨h.ents, h.bot, h.roots, h.need, by show σ.opn.length + σ.nodes.length + r.length ≤ M; omega⟩

set_option maxHeartbeats 8000000 in
theorem landLeaf (base g M : Nat) (ts : List Tk) (σ : PS) (n : Nd) (w : World) (h : PMemE (Aw none) w base g ts σ) (hf : Fit M 0 σ) (hM : M ≤ 5000) (hl : ts.length ≤ 5000) (hk : kindOf σ.rest ≠ 0)
    (hn : small64 n.kind ∧ small64 n.lo ∧ small64 n.hi ∧ n.name.size ≤ maxLen) :
    Calls Try.prog 57 #[.pointer (some ⟨g, 0, none⟩), .agg #[.int .i64 n.kind, .string n.name, .int .i64 n.lo, .int .i64 n.hi, .slice none 0 0]] w (StepGot base g ts w (leafM n σ)) := by
  have HM := Lib.hid h
  have HF := Lib.hid hf
  have HL := Lib.hid (And.intro hM hl)
  have HN := Lib.hid hn
  obtain ⟨t, r, hr, -, -, -, -⟩ := hf.toks.split
  have HR := Lib.hid hr
  have HGR := Lib.hid (show GoodT r by have := hf.toks.tail hk; rw [hr] at this; exact this)
  have hb0 := fun o => (Below.refl w.heap.size w).alloc (Nat.le_refl _) o
  have HB0 := Lib.hid hb0
  by_cases hm : σ.made = 200
  · have HE := Lib.hid (show leafM n σ = .error (4, posOf σ.rest) by unfold leafM; rw [make_no hm])
    have HMD := Lib.hid hm
    clear h hf hM hl hk hn hr hb0 hm
    go_enter Try.func57, Try.ntmps57
    go_wp2_with fail
    refine (landCreate0 base g ts σ _ (HM.out.later (HB0.out _)) HMD.out).mono ?_
    rintro e w1 ⟨rfl, rfl⟩
    go_wp2_with fail
    go_ret
    rw [HE.out]
    exact StepGot.bad (by decide) HF.out.toks rfl (HM.out.later (HB0.out _)) (Fr.later (HB0.out _) HM.out.base)
  · have HE := Lib.hid (show leafM n σ = .ok (endM (putM n 0 { σ with rest := r, made := σ.made + 1 })) by unfold leafM; rw [make_yes hm]; simp only; unfold next; rw [show ({ σ with made := σ.made + 1 } : PS).rest = t :: r from hr]; rfl)
    have HMD := Lib.hid (show σ.made < 200 by have := hf.made; omega)
    clear h hf hM hl hk hn hr hb0 hm
    go_enter Try.func57, Try.ntmps57
    go_wp2_with fail
    refine (landCreate1 base g ts σ _ (HM.out.later (HB0.out _)) HMD.out).mono ?_
    rintro e w1 ⟨rfl, hm1, hg1⟩
    have hbx := (Blk.new w #[.int .i64 n.kind, .string n.name, .int .i64 n.lo, .int .i64 n.hi, .slice none 0 0] 33 _ rfl).grown hg1 (fun e => by injection e with e; have := HM.out.hg.2; omega)
    have hfr := (Fr.later (bx := none) (HB0.out (.cells #[.int .i64 n.kind, .string n.name, .int .i64 n.lo, .int .i64 n.hi, .slice none 0 0] 33)) HM.out.base).trans (Fr.of_g hg1 HM.out.hg.1 (Nat.le_trans HM.out.base (HB0.out _).size) (fun e => by cases e))
    obtain ⟨tv, ov, nv, rv, SN, hm1⟩ := hm1
    obtain ⟨j, hj⟩ : ∃ j, ts.length - σ.rest.length = j := ⟨_, rfl⟩
    have c1 := hm1.blk.cell 1 rfl
    have f1 := hm1.blk.fz 1 rfl
    rw [hj] at c1
    have hj5 : (j : Int) ≤ 5000 := by have := HL.out.2; omega
    have hj0 : (0 : Int) ≤ (j : Int) := by omega
    have hm2 := hm1.next (σ := { σ with made := σ.made + 1 }) HR.out hj
    have hb2 := hbx.other ⟨g, 1, none⟩ (.int .i64 ((j : Int) + 1)) (fun e => by have := HM.out.hg.2; have e : w.heap.size = g := e; omega)
    have hf2 := hfr.setCell (p := ⟨g, 1, none⟩) HM.out.hg.1 (fun e => by cases e) (.int .i64 ((j : Int) + 1))
    have x0 := hb2.cell 0 rfl
    have x1 := hb2.cell 1 rfl
    have x2 := hb2.cell 2 rfl
    have x3 := hb2.cell 3 rfl
    have x4 := hb2.cell 4 rfl
    have HM2 := Lib.hid hm2
    have HF2 := Lib.hid hf2
    clear hbx hfr hm1 hj hm2 hb2 hf2 hg1
    go_wp2_with fail
    refine (landPut none base g ts { σ with rest := r, made := σ.made + 1 } n 0 _ (low_none _) ⟨_, _, _, _, _, HM2.out⟩ ((next_ok HF.out.good HR.out _).ok HL.out.1 (by omega)) (Nat.zero_le _) HN.out).mono ?_
    rintro e w3 ⟨rfl, hm3, hf3⟩
    have HM3 := Lib.hid hm3
    have HF3 := Lib.hid (HF2.out.trans hf3)
    clear hm3 hf3 x0 x1 x2 x3 x4 c1 f1
    go_wp2_with fail
    refine (landEnd none base g M ts _ _ (low_none _) HM3.out (leaf_good HF.out.good HR.out n _) HL.out.1).mono ?_
    rintro e w4 ⟨rfl, hm4, hf4⟩
    go_wp2_with fail
    go_ret
    rw [HE.out]
    exact ⟨rfl, hm4, HF3.out.trans hf4⟩

set_option maxHeartbeats 8000000 in
theorem landStar (base g M : Nat) (ts : List Tk) (σ : PS) (w : World) (h : PMemE (Aw none) w base g ts σ) (hf : Fit M 1 σ) (hM : M ≤ 5000) (hl : ts.length ≤ 5000) (_hk : kindOf σ.rest ≠ 0) :
    Calls Try.prog 55 #[.pointer (some ⟨g, 0, none⟩)] w (StepGot base g ts w (starM σ)) := by
  have HM := Lib.hid h
  have HF := Lib.hid hf
  have HL := Lib.hid (And.intro hM hl)
  obtain ⟨t, r, hr, -, -, -, -⟩ := hf.toks.split
  have HR := Lib.hid hr
  by_cases hm : σ.made = 200
  · have HE := Lib.hid (show starM σ = .error (4, posOf σ.rest) by unfold starM; rw [make_no hm])
    have HMD := Lib.hid hm
    clear h hf hM hl hr hm
    go_enter Try.func55, Try.ntmps55
    go_wp2_with fail
    refine (landCreate0 base g ts σ _ HM.out HMD.out).mono ?_
    rintro e w1 ⟨rfl, rfl⟩
    go_wp2_with fail
    go_ret
    rw [HE.out]
    exact StepGot.bad (by decide) HF.out.toks rfl HM.out (Fr.refl _ _ _)
  · have HE := Lib.hid (show starM σ = .ok (putM ⟨22, ⟨#[]⟩, 0, 0, []⟩ 1 { σ with rest := r, made := σ.made + 1 }) by unfold starM; rw [make_yes hm]; simp only; unfold next; rw [show ({ σ with made := σ.made + 1 } : PS).rest = t :: r from hr]; rfl)
    have HMD := Lib.hid (show σ.made < 200 by have := hf.made; omega)
    clear h hf hM hl hr hm
    go_enter Try.func55, Try.ntmps55
    go_wp2_with fail
    refine (landCreate1 base g ts σ _ HM.out HMD.out).mono ?_
    rintro e w1 ⟨rfl, hm1, hg1⟩
    have hfr := Fr.of_g (bx := none) hg1 HM.out.hg.1 HM.out.base (fun e => by cases e)
    obtain ⟨tv, ov, nv, rv, SN, hm1⟩ := hm1
    obtain ⟨j, hj⟩ : ∃ j, ts.length - σ.rest.length = j := ⟨_, rfl⟩
    have c1 := hm1.blk.cell 1 rfl
    have f1 := hm1.blk.fz 1 rfl
    rw [hj] at c1
    have hj5 : (j : Int) ≤ 5000 := by have := HL.out.2; omega
    have hj0 : (0 : Int) ≤ (j : Int) := by omega
    have hm2 := hm1.next (σ := { σ with made := σ.made + 1 }) HR.out hj
    have hf2 := hfr.setCell (p := ⟨g, 1, none⟩) HM.out.hg.1 (fun e => by cases e) (.int .i64 ((j : Int) + 1))
    have HM2 := Lib.hid hm2
    have HF2 := Lib.hid hf2
    clear hfr hm1 hj hm2 hf2 hg1
    go_wp2_with fail
    refine (landPut none base g ts { σ with rest := r, made := σ.made + 1 } ⟨22, ⟨#[]⟩, 0, 0, []⟩ 1 _ (low_none _) ⟨_, _, _, _, _, HM2.out⟩ ((next_ok HF.out.good HR.out _).ok HL.out.1 (by omega)) (by show 1 ≤ σ.roots.length; have := HF.out.good.need; omega) (by unfold small64; exact ⟨by decide, by decide, by decide, Nat.zero_le _⟩)).mono ?_
    rintro e w3 ⟨rfl, hm3, hf3⟩
    go_wp2_with fail
    go_ret
    rw [HE.out]
    exact ⟨rfl, hm3, HF2.out.trans hf3⟩
end Go.Proofs.Ytbehlceacgaebaa.Parse
