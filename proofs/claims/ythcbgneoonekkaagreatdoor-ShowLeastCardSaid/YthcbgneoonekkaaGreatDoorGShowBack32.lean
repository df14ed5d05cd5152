/-
  What a reader keeps is kept by each step. By an AI agent.
  The walks of the landed reader's behind and step. By an AI agent.
-/
import Derived.Test.YthcbgneoonekkaaGreatDoorGShowBack31
namespace Go.Proofs.YthcbgneoonekkaaGreatDoor.Parse
open Go.Proofs.YthcbgneoonekkaaGreatDoor.Lex Go.Proofs.YthcbgneoonekkaaGreatDoor.Tree

def eOf (σ : PS) : Nat := if σ.ended = true then 1 else 0
theorem small_nat {n : Nat} (h : n ≤ 9999) : small64 (n : Int) := by unfold small64; omega
theorem span_small {k : Nat} {r : List Tk} {lo hi : Int} {q : List Tk} (hG : GoodT r) (h : spanM k r = .ok (lo, hi, q)) : small64 lo ∧ small64 hi := by
  have z : small64 0 ∧ small64 (-1) := by unfold small64; decide
  unfold spanM at h
  split at h
  · cases h; exact ⟨z.1, z.1⟩
  · split at h
    · cases h; exact z
    · next h91 =>
      have h91 : textOf r = [91] := Decidable.byContradiction h91
      have g1 := hG.next (by rw [h91]; decide)
      simp only at h
      split at h
      · cases h
      · next hk1 =>
        have hk1 : kindOf r.tail = 2 := Decidable.byContradiction hk1
        have g2 := g1.tail (by rw [hk1]; decide)
        split at h
        · cases h
        · next h44 =>
          have h44 : textOf r.tail.tail = [44] := Decidable.byContradiction h44
          have g3 := g2.next (by rw [h44]; decide)
          split at h
          · split at h
            · cases h
            · cases h
              exact ⟨small_nat g1.num, z.2⟩
          · split at h
            · cases h
            · split at h
              · cases h
              · cases h
                exact ⟨small_nat g1.num, small_nat g3.num⟩
theorem push_good {M e : Nat} {σ : PS} {x : Ent} (h : Good M e σ) (hx : EntOk x) (hk : x.kids ≤ 1) (hs : σ.opn.length + 1 + σ.nodes.length + σ.rest.length ≤ M) : Good M e (pushM x σ) := by
  obtain ⟨K, g, hb⟩ := h.bot
  refine ⟨fun y hy => ?_, ⟨x :: K, g, by show x :: σ.opn = _; rw [hb]; rfl⟩, h.roots, ?_, by show (x :: σ.opn).length + _ + _ ≤ M; rw [List.length_cons]; exact hs⟩
  · rcases List.mem_cons.1 hy with rfl | hy
    · exact hx
    · exact h.ents y hy
  · show need (x :: σ.opn) + e = σ.roots.length
    rw [need_cons]
    have := h.need
    omega
theorem push_good2 {M : Nat} {σ : PS} {x : Ent} (h : Good M 1 σ) (hx : EntOk x) (hk : x.kids = 2) (hs : σ.opn.length + 1 + σ.nodes.length + σ.rest.length ≤ M) (b : Bool) : Good M 0 { pushM x σ with ended := b } := by
  obtain ⟨K, g, hb⟩ := h.bot
  refine ⟨fun y hy => ?_, ⟨x :: K, g, by show x :: σ.opn = _; rw [hb]; rfl⟩, h.roots, ?_, by show (x :: σ.opn).length + _ + _ ≤ M; rw [List.length_cons]; exact hs⟩
  · rcases List.mem_cons.1 hy with rfl | hy
    · exact hx
    · exact h.ents y hy
  · show need (x :: σ.opn) + 0 = σ.roots.length
    rw [need_cons]
    have := h.need
    omega
theorem good_ended {M e : Nat} {σ : PS} (h : Good M e σ) (b : Bool) : Good M e { σ with ended := b } := ⟨h.ents, h.bot, h.roots, h.need, h.size⟩
theorem end_good {M : Nat} {σ : PS} (h : Good M 1 σ) : Good M 1 (endM σ) := good_ended (fin_good (by omega) _ σ rfl h) true
theorem end_made (σ : PS) : (endM σ).made = σ.made := (finM_rest 5 σ).2.1
theorem pop_made (σ : PS) : (popM σ).made = σ.made := by
  unfold popM
  split
  · rfl
  · unfold popX; split <;> rfl
/-- The size that a token frees. -/
theorem rest_lt {M e : Nat} {σ : PS} (h : Good M e σ) {q : List Tk} (hq : q.length < σ.rest.length) (m : Nat) : Good M e { σ with rest := q, made := m } ∧ σ.opn.length + 1 + σ.nodes.length + q.length ≤ M :=
  ⟨rest_ok h (by omega) m, by have := h.size; omega⟩
theorem pre_range {g : Bool} {t : List UInt8} : preOf g t = 0 ∨ (1 ≤ preOf g t ∧ preOf g t ≤ 22) := by
  unfold preOf aheadK
  repeat' split
  all_goals simp
theorem brace_range {g : Bool} {t : List UInt8} : braceOf g t = 0 ∨ (1 ≤ braceOf g t ∧ braceOf g t ≤ 22) := by
  unfold braceOf
  repeat' split
  all_goals simp
theorem betw_range {g : Bool} {t : List UInt8} : (betwK g t).1 = 0 ∨ (1 ≤ (betwK g t).1 ∧ (betwK g t).1 ≤ 22 ∧ 1 ≤ (betwK g t).2 ∧ (betwK g t).2 ≤ 4) := by
  unfold betwK
  repeat' split
  all_goals simp
theorem zero_small : small64 0 := by unfold small64; decide

theorem bracket_fit {M : Nat} {σ τ : PS} {x : Ent} (h : Fit M 0 σ) (hk : kindOf σ.rest ≠ 0) (hx : ∀ d, d ≤ 40 → EntOk { x with depth := d }) (hk1 : x.kids ≤ 1) (hs : bracketM x σ = .ok τ) : Fit M 0 τ ∧ τ.ended = σ.ended := by
  unfold bracketM at hs
  split at hs
  · cases hs
  · next hd =>
    cases hs
    have h2 := h.good.depth
    have hr := rest_lt h.good (q := σ.rest.tail) (by cases hc : σ.rest with | nil => rw [hc] at hk; exact absurd rfl hk | cons t r => simp) σ.made
    exact ⟨⟨push_good hr.1 (hx _ (by omega)) hk1 hr.2, h.toks.tail hk, h.made⟩, rfl⟩
theorem begin_fit {M : Nat} {g : Bool} {σ τ : PS} (h : Fit M 0 σ) (hs : beginM g σ = .ok τ) : (Fit M 1 τ ∧ τ.ended = true) ∨ (Fit M 0 τ ∧ τ.ended = σ.ended) := by
  have hne : ∀ {t : List UInt8}, textOf σ.rest = t → t ≠ [] → kindOf σ.rest ≠ 0 := fun e hn => kind_end h.toks.allOk (by rw [e]; exact hn)
  unfold beginM at hs
  split at hs
  · next n hn =>
    have hk := hne rfl (leaf_text hn)
    unfold leafM at hs
    split at hs
    · cases hs
    · next s1 h1 =>
      obtain ⟨rfl, hm⟩ := make_ok' h1
      cases hs
      obtain ⟨t, r, hr, -⟩ := h.toks.split
      have hnx : next { σ with made := σ.made + 1 } = { σ with rest := r, made := σ.made + 1 } := by unfold next; simp only; rw [hr]; rfl
      rw [hnx]
      refine Or.inl ⟨⟨end_good (leaf_good h.good hr n _), ?_, ?_⟩, rfl⟩
      · rw [end_rest]
        have := h.toks.tail hk
        rw [hr] at this
        exact this
      · rw [end_made]
        have := h.made
        show σ.made + 1 ≤ 200
        omega
  · split at hs
    · next ht =>
      obtain ⟨h1, h2⟩ := bracket_fit h (hne ht (by decide)) (fun d hd => ⟨Or.inl ⟨rfl, rfl⟩, zero_small, zero_small, hd, Nat.zero_le _⟩) (Nat.zero_le _) hs
      exact Or.inr ⟨h1, h2⟩
    · split at hs
      · next hb =>
        have hk := hne rfl (brace_text hb)
        unfold bracesM at hs
        split at hs
        · cases hs
        · next s1 h1 =>
          obtain ⟨rfl, hm⟩ := make_ok' h1
          split at hs
          · cases hs
          · next lo hi r hsp =>
            have hgt := h.toks.tail hk
            have hsm := span_small hgt hsp
            have hgr := span_good hgt hsp
            split at hs
            · cases hs
            · next h123 =>
              have h123 : textOf r = [123] := Decidable.byContradiction h123
              have hlen : r.length ≤ σ.rest.length := Nat.le_trans (span_le hsp).length_le (List.tail_suffix _).length_le
              have hf : Fit M 0 { σ with rest := r, made := σ.made + 1 } := ⟨rest_ok h.good hlen _, hgr, by have := h.made; show σ.made + 1 ≤ 200; omega⟩
              obtain ⟨h1, h2⟩ := bracket_fit hf (kind_end hgr.allOk (by rw [h123]; decide)) (fun d hd => ⟨Or.inr ⟨by have := brace_range (g := g) (t := textOf σ.rest); show 1 ≤ braceOf g (textOf σ.rest); omega, by have := brace_range (g := g) (t := textOf σ.rest); show braceOf g (textOf σ.rest) ≤ 22; omega, Or.inl rfl⟩, hsm.1, hsm.2, hd, Nat.zero_le _⟩) (Nat.le_refl _) hs
              exact Or.inr ⟨h1, h2⟩
      · unfold aheadM at hs
        split at hs
        · cases hs
        · next hk0 =>
          have hk := hne rfl (pre_text hk0)
          split at hs
          · cases hs
          · next hd =>
            split at hs
            · cases hs
            · next s1 h1 =>
              obtain ⟨rfl, hm⟩ := make_ok' h1
              split at hs
              · cases hs
              · next lo hi r hsp =>
                cases hs
                have hgt := h.toks.tail hk
                have hsm := span_small hgt hsp
                have hdd := h.good.depth
                have hlt : r.length < σ.rest.length := Nat.lt_of_le_of_lt (span_le hsp).length_le (tail_lt (pre_text hk0))
                have hr := rest_lt h.good hlt (σ.made + 1)
                refine Or.inr ⟨⟨push_good hr.1 ⟨Or.inr ⟨?_, ?_, Or.inl rfl⟩, hsm.1, hsm.2, ?_, Nat.le_refl _⟩ (Nat.le_refl _) hr.2, span_good hgt hsp, by have := h.made; show σ.made + 1 ≤ 200; omega⟩, rfl⟩
                · have := pre_range (g := g) (t := textOf σ.rest); show 1 ≤ preOf g (textOf σ.rest); omega
                · have := pre_range (g := g) (t := textOf σ.rest); show preOf g (textOf σ.rest) ≤ 22; omega
                · show (topE σ.opn).depth + 1 ≤ 40
                  have hd : (topE σ.opn).depth ≠ 40 := hd
                  omega
theorem behind_fit {M : Nat} {σ τ : PS} (h : Fit M 1 σ) (he : σ.ended = true) (hs : behindM σ = .ok τ) : (Fit M 1 τ ∧ τ.ended = true) ∨ (Fit M 0 τ ∧ τ.ended = false) := by
  unfold behindM at hs
  simp only at hs
  split at hs
  · next hb =>
    have hk := kind_end h.toks.allOk (betw_text hb).1
    have hrg := betw_range (g := (topE σ.opn).reg) (t := textOf σ.rest)
    unfold operatorM at hs
    split at hs
    · cases hs
    · next s1 h1 =>
      obtain ⟨rfl, hm⟩ := make_ok' h1
      split at hs
      · cases hs
      · next lo hi r hsp =>
        have hgt := h.toks.tail hk
        have hsm := span_small hgt hsp
        have hlt : r.length < σ.rest.length := Nat.lt_of_le_of_lt (span_le hsp).length_le (tail_lt (betw_text hb).1)
        have hr := rest_lt h.good hlt (σ.made + 1)
        simp only at hs
        cases hs
        have hM1 : 1 ≤ M := by have := hr.2; omega
        have hg1 : Good (M - 1) 1 { σ with rest := r, made := σ.made + 1 } := ⟨hr.1.ents, hr.1.bot, hr.1.roots, hr.1.need, by show σ.opn.length + σ.nodes.length + r.length ≤ M - 1; have := hr.2; omega⟩
        have hfg := fin_good (lev := (betwK (topE σ.opn).reg (textOf σ.rest)).2) (by omega) _ { σ with rest := r, made := σ.made + 1 } rfl hg1
        have hfr := finM_rest (betwK (topE σ.opn).reg (textOf σ.rest)).2 { σ with rest := r, made := σ.made + 1 }
        have hfd := hfg.depth
        obtain ⟨υ, hυ⟩ : ∃ υ, finM (betwK (topE σ.opn).reg (textOf σ.rest)).2 { σ with rest := r, made := σ.made + 1 } = υ := ⟨_, rfl⟩
        rw [hυ] at hfg hfr hfd
        have hfg2 : Good M 1 υ := ⟨hfg.ents, hfg.bot, hfg.roots, hfg.need, Nat.le_trans hfg.size (by omega)⟩
        refine Or.inr ⟨⟨?_, ?_, ?_⟩, rfl⟩
        · have hg2 := push_good2 (x := ⟨(betwK (topE σ.opn).reg (textOf σ.rest)).1, lo, hi, 2, (betwK (topE σ.opn).reg (textOf σ.rest)).2, [], (topE υ.opn).reg, (topE υ.opn).depth⟩) hfg2 ⟨Or.inr ⟨by show 1 ≤ (betwK (topE σ.opn).reg (textOf σ.rest)).1; omega, by show (betwK (topE σ.opn).reg (textOf σ.rest)).1 ≤ 22; omega, Or.inr rfl⟩, hsm.1, hsm.2, hfd, by show (betwK (topE σ.opn).reg (textOf σ.rest)).2 ≤ 5; omega⟩ rfl (by have := hfg.size; omega) false
          rw [← hυ] at hg2
          exact hg2
        · show GoodT (finM (betwK (topE σ.opn).reg (textOf σ.rest)).2 { σ with rest := r, made := σ.made + 1 }).rest
          rw [(finM_rest _ _).1]
          exact span_good hgt hsp
        · show (finM (betwK (topE σ.opn).reg (textOf σ.rest)).2 { σ with rest := r, made := σ.made + 1 }).made ≤ 200
          rw [(finM_rest _ _).2.1]
          have := h.made
          show σ.made + 1 ≤ 200
          omega
  · split at hs
    · next hst =>
      have hk := kind_end h.toks.allOk (by rw [hst.2]; decide)
      unfold starM at hs
      split at hs
      · cases hs
      · next s1 h1 =>
        obtain ⟨rfl, hm⟩ := make_ok' h1
        cases hs
        obtain ⟨t, r, hr, -⟩ := h.toks.split
        have hnx : next { σ with made := σ.made + 1 } = { σ with rest := r, made := σ.made + 1 } := by unfold next; simp only; rw [hr]; rfl
        rw [hnx]
        have hgt := h.toks.tail hk
        rw [hr] at hgt
        exact Or.inl ⟨⟨star_good h.good hr _ _, hgt, by have := h.made; show σ.made + 1 ≤ 200; omega⟩, he⟩
    · unfold shutM at hs
      simp only at hs
      split at hs
      · cases hs
      · next hn =>
        cases hs
        have hfr := finM_rest 1 σ
        have hfg := fin_good (lev := 1) (Nat.le_refl 1) _ σ rfl h.good
        obtain ⟨υ, hυ⟩ : ∃ υ, finM 1 σ = υ := ⟨_, rfl⟩
        rw [hυ] at hfr hfg hn ⊢
        have hk3 : kindOf υ.rest = 3 := Decidable.byContradiction fun e => hn (Or.inl e)
        have hcl : textOf υ.rest = (topE υ.opn).closer := Decidable.byContradiction fun e => hn (Or.inr e)
        obtain ⟨y, K, hy⟩ := hfg.split
        have hgt : GoodT υ.rest := by rw [hfr.1]; exact h.toks
        obtain ⟨t, r, hr, -⟩ := hgt.split
        have hnx : next υ = { υ with rest := r, made := υ.made } := by unfold next; rw [hr]; rfl
        have hab := hfg.above hy (fun e => by
          have h0 : (topE υ.opn).closer = [] := by rw [hy]; show y.closer = []; rw [e]; rfl
          exact kind_text hgt.allOk hk3 (hcl.trans h0))
        rw [hnx]
        refine Or.inl ⟨⟨end_good (pop_good (next_ok hfg hr _) hy hab), ?_, ?_⟩, rfl⟩
        · rw [end_rest, pop_rest]
          have := hgt.tail (by rw [hk3]; decide)
          rw [hr] at this
          exact this
        · rw [end_made, pop_made]
          show υ.made ≤ 200
          rw [hfr.2.1]
          exact h.made
theorem step_fit {M : Nat} {σ τ : PS} (h : Fit M (eOf σ) σ) (hs : stepM σ = .ok τ) : Fit M (eOf τ) τ := by
  unfold stepM at hs
  unfold eOf at h ⊢
  split at hs
  · next he =>
    rw [if_pos he] at h
    rcases behind_fit h he hs with ⟨h1, h2⟩ | ⟨h1, h2⟩
    · rw [if_pos h2]; exact h1
    · rw [if_neg (by rw [h2]; decide)]; exact h1
  · next he =>
    rw [if_neg he] at h
    rcases begin_fit h hs with ⟨h1, h2⟩ | ⟨h1, h2⟩
    · rw [if_pos h2]; exact h1
    · rw [if_neg (by rw [h2]; exact he)]; exact h1
end Go.Proofs.YthcbgneoonekkaaGreatDoor.Parse

namespace Go.Proofs.YthcbgneoonekkaaGreatDoor.Parse
open Go.RowKit Go.Proofs.YthcbgneoonekkaaGreatDoor.Ints Go.Proofs.YthcbgneoonekkaaGreatDoor.Lex Go.Proofs.YthcbgneoonekkaaGreatDoor.Tree

set_option maxHeartbeats 16000000 in
theorem landBehind (base g M : Nat) (ts : List Tk) (σ : PS) (w : World) (h : PMemE (Aw none) w base g ts σ) (hf : Fit M 1 σ) (hM : M ≤ 5000) (hl : ts.length ≤ 5000) :
    Calls Tryz.prog 60 #[.pointer (some ⟨g, 0, none⟩)] w (StepGot base g ts w (behindM σ)) := by
  have HM := Lib.hid h
  have HF := Lib.hid hf
  have HL := Lib.hid (And.intro hM hl)
  obtain ⟨t, r, hr, htk, -, ht16, -⟩ := hf.toks.split
  have HR := Lib.hid hr
  have HKN := Lib.hid (fun (hne : textOf σ.rest ≠ []) => kind_end hf.toks.allOk hne)
  have htx : textOf σ.rest = t.text := by rw [hr]; rfl
  have HTX := Lib.hid htx
  obtain ⟨y, K, hy⟩ := hf.good.split
  have HY := Lib.hid hy
  have hKl : K.length ≤ 5000 := by have := hf.good.size; rw [hy, List.length_cons] at this; omega
  have HK := Lib.hid hKl
  have hyr : (topE σ.opn).reg = y.reg := by rw [hy]; rfl
  have q1 := fieldT1 t.kind (Lex.bytes t.text) t.num t.pos
  have q5 := fieldE5 y.kind y.lo y.hi y.kids y.level (Lex.bytes y.closer) y.reg y.depth
  have f0 := bytes_is t.text [42]
  have HBT := Lib.hid (fun W => landBetween y.reg t.text W)
  obtain ⟨z, hz⟩ : ∃ z, Lex.bytes t.text = z := ⟨_, rfl⟩
  rw [hz] at f0 q1 HBT
  have HZ := Lib.hid hz
  obtain ⟨b, hb⟩ : ∃ b, y.reg = b := ⟨_, rfl⟩
  rw [hb] at q5 HBT hyr
  have HBB := Lib.hid hb
  obtain ⟨k, hk⟩ : ∃ k, (betwK b t.text).1 = k := ⟨_, rfl⟩
  obtain ⟨lev, hlev⟩ : ∃ lev, (betwK b t.text).2 = lev := ⟨_, rfl⟩
  rw [hk, hlev] at HBT
  have hE0 : behindM σ = (if k ≠ 0 then operatorM k lev σ else if b = true ∧ t.text = [42] then starM σ else shutM σ) := by
    unfold behindM
    simp only
    rw [hyr, htx, hk, hlev]
  by_cases hk0 : k = 0
  · have hkb : ((k : Int) != 0) = false := by rw [hk0]; rfl
    rw [if_neg (fun h => h hk0)] at hE0
    by_cases hst : b = true ∧ t.text = [42]
    · rw [if_pos hst] at hE0
      have HE := Lib.hid hE0
      have HT := Lib.hid hst.2
      rw [decide_eq_true hst.2] at f0
      obtain ⟨rfl, -⟩ := hst
      clear h hf hM hl hr htk ht16 htx hy hKl hyr hz hk hlev hE0 hk0 hb
      go_enter Tryz.func60, Tryz.ntmps60
      go_wp2_with fail
      have htok := landTok base g ts σ t r _ HM.out HR.out HL.out.2
      rw [HZ.out] at htok
      refine htok.mono ?_
      rintro e w1 ⟨rfl, hb1⟩
      have HM1 := Lib.hid (HM.out.later hb1)
      have HF1 := Lib.hid (Fr.later (bx := none) hb1 HM.out.base)
      clear hb1 htok
      go_wp2_with fail
      have htop := landTop base g ts σ y K _ HM1.out HY.out (by have := HK.out; omega)
      rw [HBB.out] at htop
      refine htop.mono ?_
      rintro e w2 ⟨rfl, hb2⟩
      have HM2 := Lib.hid (HM1.out.later hb2)
      have HF2 := Lib.hid (HF1.out.trans (Fr.later hb2 HM1.out.base))
      clear hb2 htop
      go_wp2_with fail
      refine (HBT.out _).mono ?_
      rintro e w3 ⟨rfl, rfl⟩
      go_wp2_with fail
      refine (landStar base g M ts σ _ HM2.out HF.out HL.out.1 HL.out.2 (HKN.out (by rw [HTX.out, HT.out]; decide))).mono ?_
      intro e w9 h9
      obtain ⟨c, rfl⟩ := h9.val
      have H9 := Lib.hid (h9.trans HF2.out)
      clear h9
      go_wp2_with fail
      go_ret
      rw [HE.out]
      exact H9.out
    · rw [if_neg hst] at hE0
      have HE := Lib.hid hE0
      rcases hbb : b with _ | _
      · subst hbb
        clear h hf hM hl hr htk ht16 htx hy hKl hyr hz hk hlev hE0 hk0 hb hst
        go_enter Tryz.func60, Tryz.ntmps60
        go_wp2_with fail
        have htok := landTok base g ts σ t r _ HM.out HR.out HL.out.2
        rw [HZ.out] at htok
        refine htok.mono ?_
        rintro e w1 ⟨rfl, hb1⟩
        have HM1 := Lib.hid (HM.out.later hb1)
        have HF1 := Lib.hid (Fr.later (bx := none) hb1 HM.out.base)
        clear hb1 htok
        go_wp2_with fail
        have htop := landTop base g ts σ y K _ HM1.out HY.out (by have := HK.out; omega)
        rw [HBB.out] at htop
        refine htop.mono ?_
        rintro e w2 ⟨rfl, hb2⟩
        have HM2 := Lib.hid (HM1.out.later hb2)
        have HF2 := Lib.hid (HF1.out.trans (Fr.later hb2 HM1.out.base))
        clear hb2 htop
        go_wp2_with fail
        refine (HBT.out _).mono ?_
        rintro e w3 ⟨rfl, rfl⟩
        go_wp2_with fail
        refine (landShut base g M ts σ _ HM2.out HF.out HL.out.1 HL.out.2).mono ?_
        intro e w9 h9
        obtain ⟨c, rfl⟩ := h9.val
        have H9 := Lib.hid (h9.trans HF2.out)
        clear h9
        go_wp2_with fail
        go_ret
        rw [HE.out]
        exact H9.out
      · subst hbb
        rw [decide_eq_false (fun e => hst ⟨rfl, e⟩)] at f0
        clear h hf hM hl hr htk ht16 htx hy hKl hyr hz hk hlev hE0 hk0 hb hst
        go_enter Tryz.func60, Tryz.ntmps60
        go_wp2_with fail
        have htok := landTok base g ts σ t r _ HM.out HR.out HL.out.2
        rw [HZ.out] at htok
        refine htok.mono ?_
        rintro e w1 ⟨rfl, hb1⟩
        have HM1 := Lib.hid (HM.out.later hb1)
        have HF1 := Lib.hid (Fr.later (bx := none) hb1 HM.out.base)
        clear hb1 htok
        go_wp2_with fail
        have htop := landTop base g ts σ y K _ HM1.out HY.out (by have := HK.out; omega)
        rw [HBB.out] at htop
        refine htop.mono ?_
        rintro e w2 ⟨rfl, hb2⟩
        have HM2 := Lib.hid (HM1.out.later hb2)
        have HF2 := Lib.hid (HF1.out.trans (Fr.later hb2 HM1.out.base))
        clear hb2 htop
        go_wp2_with fail
        refine (HBT.out _).mono ?_
        rintro e w3 ⟨rfl, rfl⟩
        go_wp2_with fail
        refine (landShut base g M ts σ _ HM2.out HF.out HL.out.1 HL.out.2).mono ?_
        intro e w9 h9
        obtain ⟨c, rfl⟩ := h9.val
        have H9 := Lib.hid (h9.trans HF2.out)
        clear h9
        go_wp2_with fail
        go_ret
        rw [HE.out]
        exact H9.out
  · have hkb : ((k : Int) != 0) = true := by simp; omega
    rw [if_pos hk0] at hE0
    have HE := Lib.hid hE0
    have HBK := Lib.hid (show (betwK b t.text).1 ≠ 0 by rw [hk]; exact hk0)
    have HLV := Lib.hid (show 1 ≤ lev by have := betw_range (g := b) (t := t.text); omega)
    clear h hf hM hl hr htk ht16 htx hy hKl hyr hz hk hlev hE0 hk0 hb f0
    go_enter Tryz.func60, Tryz.ntmps60
    go_wp2_with fail
    have htok := landTok base g ts σ t r _ HM.out HR.out HL.out.2
    rw [HZ.out] at htok
    refine htok.mono ?_
    rintro e w1 ⟨rfl, hb1⟩
    have HM1 := Lib.hid (HM.out.later hb1)
    have HF1 := Lib.hid (Fr.later (bx := none) hb1 HM.out.base)
    clear hb1 htok
    go_wp2_with fail
    have htop := landTop base g ts σ y K _ HM1.out HY.out (by have := HK.out; omega)
    rw [HBB.out] at htop
    refine htop.mono ?_
    rintro e w2 ⟨rfl, hb2⟩
    have HM2 := Lib.hid (HM1.out.later hb2)
    have HF2 := Lib.hid (HF1.out.trans (Fr.later hb2 HM1.out.base))
    clear hb2 htop
    go_wp2_with fail
    refine (HBT.out _).mono ?_
    rintro e w3 ⟨rfl, rfl⟩
    go_wp2_with fail
    refine (landOper base g M ts σ k lev _ HM2.out HF.out HL.out.1 HL.out.2 (HKN.out (by rw [HTX.out]; exact (betw_text HBK.out).1)) HLV.out).mono ?_
    intro e w9 h9
    obtain ⟨c, rfl⟩ := h9.val
    have H9 := Lib.hid (h9.trans HF2.out)
    clear h9
    go_wp2_with fail
    go_ret
    rw [HE.out]
    exact H9.out

set_option maxHeartbeats 8000000 in
theorem landStep (base g M : Nat) (ts : List Tk) (σ : PS) (w : World) (h : PMemE (Aw none) w base g ts σ) (hf : Fit M (eOf σ) σ) (hM : M ≤ 5000) (hl : ts.length ≤ 5000) :
    Calls Tryz.prog 41 #[.pointer (some ⟨g, 0, none⟩)] w (StepGot base g ts w (stepM σ)) := by
  have HM := Lib.hid h
  have HF := Lib.hid hf
  have HL := Lib.hid (And.intro hM hl)
  have hc2 : w.cell? ⟨g, 2, none⟩ = some (.bool σ.ended) := by obtain ⟨tv, ov, nv, rv, SN, h⟩ := h; exact h.blk.cell 2 rfl
  rcases he : σ.ended with _ | _
  · rw [he] at hc2
    obtain ⟨y, K, hy⟩ := hf.good.split
    have HY := Lib.hid hy
    have hKl : K.length ≤ 5000 := by have := hf.good.size; rw [hy, List.length_cons] at this; omega
    have HK := Lib.hid hKl
    have HF0 := Lib.hid (show Fit M 0 σ by have := hf; unfold eOf at this; rw [if_neg (by rw [he]; decide)] at this; exact this)
    have HE := Lib.hid (show stepM σ = beginM y.reg σ by unfold stepM; rw [if_neg (by rw [he]; decide), hy]; rfl)
    have q5 := fieldE5 y.kind y.lo y.hi y.kids y.level (Lex.bytes y.closer) y.reg y.depth
    rcases hyr : y.reg with _ | _
    all_goals
      have HYR := Lib.hid hyr
      rw [hyr] at HE q5
      clear h hf hM hl he hy hKl hyr
      go_enter Tryz.func41, Tryz.ntmps41
      go_wp2_with fail
      have htop := landTop base g ts σ y K _ HM.out HY.out (by have := HK.out; omega)
      rw [HYR.out] at htop
      refine htop.mono ?_
      rintro e w2 ⟨rfl, hb2⟩
      have HM2 := Lib.hid (HM.out.later hb2)
      have HF2 := Lib.hid (Fr.later (bx := none) hb2 HM.out.base)
      clear hb2 htop
      go_wp2_with fail
      first
        | refine (landBeginForm base g M ts σ _ HM2.out HF0.out HL.out.1 HL.out.2).mono ?_
        | refine (landBeginReg base g M ts σ _ HM2.out HF0.out HL.out.1 HL.out.2).mono ?_
      intro e w9 h9
      obtain ⟨c, rfl⟩ := h9.val
      have H9 := Lib.hid (h9.trans HF2.out)
      clear h9
      go_wp2_with fail
      go_ret
      rw [HE.out]
      exact H9.out
  · rw [he] at hc2
    have HF1 := Lib.hid (show Fit M 1 σ by have := hf; unfold eOf at this; rw [if_pos he] at this; exact this)
    have HE := Lib.hid (show stepM σ = behindM σ by unfold stepM; rw [if_pos he])
    clear h hf hM hl he
    go_enter Tryz.func41, Tryz.ntmps41
    go_wp2_with fail
    refine (landBehind base g M ts σ _ HM.out HF1.out HL.out.1 HL.out.2).mono ?_
    intro e w9 h9
    obtain ⟨c, rfl⟩ := h9.val
    have H9 := Lib.hid h9
    clear h9
    go_wp2_with fail
    go_ret
    rw [HE.out]
    exact H9.out
end Go.Proofs.YthcbgneoonekkaaGreatDoor.Parse
