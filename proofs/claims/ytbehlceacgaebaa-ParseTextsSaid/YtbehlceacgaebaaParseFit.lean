/-
  What a reader keeps is kept by each step. By an AI agent.
-/
import Derived.Test.YtbehlceacgaebaaParseStep1
namespace Go.Proofs.Ytbehlceacgaebaa.Parse
open Go.Proofs.Ytbehlceacgaebaa.Lex Go.Proofs.Ytbehlceacgaebaa.Tree

def eOf (σ : PS) : Nat := if σ.ended = true then 1 else 0
theorem small_nat {n : Nat} (h : n ≤ 9999) : small64 (n : Int) := by unfold small64; omega
theorem span_small {k : Nat} {r : List Tk} {lo hi : Int} {q : List Tk} (hG : GoodT r) (h : spanM k r = .ok (lo, hi, q)) : small64 lo ∧ small64 hi := by
  have z : small64 0 ∧ small64 (-1) := by unfold small64; decide
  unfold spanM at h
  split at h
  · cases h; exact ⟨z.1, z.1⟩
  · split at h
    · cases h; exact z
    · next h91 =>
      have h91 : textOf r = [91] := Decidable.byContradiction h91
      have g1 := hG.next (by rw [h91]; decide)
      simp only at h
      split at h
      · cases h
      · next hk1 =>
        have hk1 : kindOf r.tail = 2 := Decidable.byContradiction hk1
        have g2 := g1.tail (by rw [hk1]; decide)
        split at h
        · cases h
        · next h44 =>
          have h44 : textOf r.tail.tail = [44] := Decidable.byContradiction h44
          have g3 := g2.next (by rw [h44]; decide)
          split at h
          · split at h
            · cases h
            · cases h
              exact ⟨small_nat g1.num, z.2⟩
          · split at h
            · cases h
            · split at h
              · cases h
              · cases h
                exact ⟨small_nat g1.num, small_nat g3.num⟩
theorem push_good {M e : Nat} {σ : PS} {x : Ent} (h : Good M e σ) (hx : EntOk x) (hk : x.kids ≤ 1) (hs : σ.opn.length + 1 + σ.nodes.length + σ.rest.length ≤ M) : Good M e (pushM x σ) := by
  obtain ⟨K, g, hb⟩ := h.bot
  refine ⟨fun y hy => ?_, ⟨x :: K, g, by show x :: σ.opn = _; rw [hb]; rfl⟩, h.roots, ?_, by show (x :: σ.opn).length + _ + _ ≤ M; rw [List.length_cons]; exact hs⟩
  · rcases List.mem_cons.1 hy with rfl | hy
    · exact hx
    · exact h.ents y hy
  · show need (x :: σ.opn) + e = σ.roots.length
    rw [need_cons]
    have := h.need
    omega
theorem push_good2 {M : Nat} {σ : PS} {x : Ent} (h : Good M 1 σ) (hx : EntOk x) (hk : x.kids = 2) (hs : σ.opn.length + 1 + σ.nodes.length + σ.rest.length ≤ M) (b : Bool) : Good M 0 { pushM x σ with ended := b } := by
  obtain ⟨K, g, hb⟩ := h.bot
  refine ⟨fun y hy => ?_, ⟨x :: K, g, by show x :: σ.opn = _; rw [hb]; rfl⟩, h.roots, ?_, by show (x :: σ.opn).length + _ + _ ≤ M; rw [List.length_cons]; exact hs⟩
  · rcases List.mem_cons.1 hy with rfl | hy
    · exact hx
    · exact h.ents y hy
  · show need (x :: σ.opn) + 0 = σ.roots.length
    rw [need_cons]
    have := h.need
    omega
theorem good_ended {M e : Nat} {σ : PS} (h : Good M e σ) (b : Bool) : Good M e { σ with ended := b } := ⟨h.ents, h.bot, h.roots, h.need, h.size⟩
theorem end_good {M : Nat} {σ : PS} (h : Good M 1 σ) : Good M 1 (endM σ) := good_ended (fin_good (by omega) _ σ rfl h) true
theorem end_made (σ : PS) : (endM σ).made = σ.made := (finM_rest 5 σ).2.1
theorem pop_made (σ : PS) : (popM σ).made = σ.made := by
  unfold popM
  split
  · rfl
  · unfold popX; split <;> rfl
/-- The size that a token frees. -/
theorem rest_lt {M e : Nat} {σ : PS} (h : Good M e σ) {q : List Tk} (hq : q.length < σ.rest.length) (m : Nat) : Good M e { σ with rest := q, made := m } ∧ σ.opn.length + 1 + σ.nodes.length + q.length ≤ M :=
  ⟨rest_ok h (by omega) m, by have := h.size; omega⟩
theorem pre_range {g : Bool} {t : List UInt8} : preOf g t = 0 ∨ (1 ≤ preOf g t ∧ preOf g t ≤ 22) := by
  unfold preOf aheadK
  repeat' split
  all_goals simp
theorem brace_range {g : Bool} {t : List UInt8} : braceOf g t = 0 ∨ (1 ≤ braceOf g t ∧ braceOf g t ≤ 22) := by
  unfold braceOf
  repeat' split
  all_goals simp
theorem betw_range {g : Bool} {t : List UInt8} : (betwK g t).1 = 0 ∨ (1 ≤ (betwK g t).1 ∧ (betwK g t).1 ≤ 22 ∧ 1 ≤ (betwK g t).2 ∧ (betwK g t).2 ≤ 4) := by
  unfold betwK
  repeat' split
  all_goals simp
theorem zero_small : small64 0 := by unfold small64; decide

theorem bracket_fit {M : Nat} {σ τ : PS} {x : Ent} (h : Fit M 0 σ) (hk : kindOf σ.rest ≠ 0) (hx : ∀ d, d ≤ 40 → EntOk { x with depth := d }) (hk1 : x.kids ≤ 1) (hs : bracketM x σ = .ok τ) : Fit M 0 τ ∧ τ.ended = σ.ended := by
  unfold bracketM at hs
  split at hs
  · cases hs
  · next hd =>
    cases hs
    have h2 := h.good.depth
    have hr := rest_lt h.good (q := σ.rest.tail) (by cases hc : σ.rest with | nil => rw [hc] at hk; exact absurd rfl hk | cons t r => simp) σ.made
    exact ⟨⟨push_good hr.1 (hx _ (by omega)) hk1 hr.2, h.toks.tail hk, h.made⟩, rfl⟩
theorem begin_fit {M : Nat} {g : Bool} {σ τ : PS} (h : Fit M 0 σ) (hs : beginM g σ = .ok τ) : (Fit M 1 τ ∧ τ.ended = true) ∨ (Fit M 0 τ ∧ τ.ended = σ.ended) := by
  have hne : ∀ {t : List UInt8}, textOf σ.rest = t → t ≠ [] → kindOf σ.rest ≠ 0 := fun e hn => kind_end h.toks.allOk (by rw [e]; exact hn)
  unfold beginM at hs
  split at hs
  · next n hn =>
    have hk := hne rfl (leaf_text hn)
    unfold leafM at hs
    split at hs
    · cases hs
    · next s1 h1 =>
      obtain ⟨rfl, hm⟩ := make_ok' h1
      cases hs
      obtain ⟨t, r, hr, -⟩ := h.toks.split
      have hnx : next { σ with made := σ.made + 1 } = { σ with rest := r, made := σ.made + 1 } := by unfold next; simp only; rw [hr]; rfl
      rw [hnx]
      refine Or.inl ⟨⟨end_good (leaf_good h.good hr n _), ?_, ?_⟩, rfl⟩
      · rw [end_rest]
        have := h.toks.tail hk
        rw [hr] at this
        exact this
      · rw [end_made]
        have := h.made
        show σ.made + 1 ≤ 200
        omega
  · split at hs
    · next ht =>
      obtain ⟨h1, h2⟩ := bracket_fit h (hne ht (by decide)) (fun d hd => ⟨Or.inl ⟨rfl, rfl⟩, zero_small, zero_small, hd, Nat.zero_le _⟩) (Nat.zero_le _) hs
      exact Or.inr ⟨h1, h2⟩
    · split at hs
      · next hb =>
        have hk := hne rfl (brace_text hb)
        unfold bracesM at hs
        split at hs
        · cases hs
        · next s1 h1 =>
          obtain ⟨rfl, hm⟩ := make_ok' h1
          split at hs
          · cases hs
          · next lo hi r hsp =>
            have hgt := h.toks.tail hk
            have hsm := span_small hgt hsp
            have hgr := span_good hgt hsp
            split at hs
            · cases hs
            · next h123 =>
              have h123 : textOf r = [123] := Decidable.byContradiction h123
              have hlen : r.length ≤ σ.rest.length := Nat.le_trans (span_le hsp).length_le (List.tail_suffix _).length_le
              have hf : Fit M 0 { σ with rest := r, made := σ.made + 1 } := ⟨rest_ok h.good hlen _, hgr, by have := h.made; show σ.made + 1 ≤ 200; omega⟩
              obtain ⟨h1, h2⟩ := bracket_fit hf (kind_end hgr.allOk (by rw [h123]; decide)) (fun d hd => ⟨Or.inr ⟨by have := brace_range (g := g) (t := textOf σ.rest); show 1 ≤ braceOf g (textOf σ.rest); omega, by have := brace_range (g := g) (t := textOf σ.rest); show braceOf g (textOf σ.rest) ≤ 22; omega, Or.inl rfl⟩, hsm.1, hsm.2, hd, Nat.zero_le _⟩) (Nat.le_refl _) hs
              exact Or.inr ⟨h1, h2⟩
      · unfold aheadM at hs
        split at hs
        · cases hs
        · next hk0 =>
          have hk := hne rfl (pre_text hk0)
          split at hs
          · cases hs
          · next hd =>
            split at hs
            · cases hs
            · next s1 h1 =>
              obtain ⟨rfl, hm⟩ := make_ok' h1
              split at hs
              · cases hs
              · next lo hi r hsp =>
                cases hs
                have hgt := h.toks.tail hk
                have hsm := span_small hgt hsp
                have hdd := h.good.depth
                have hlt : r.length < σ.rest.length := Nat.lt_of_le_of_lt (span_le hsp).length_le (tail_lt (pre_text hk0))
                have hr := rest_lt h.good hlt (σ.made + 1)
                refine Or.inr ⟨⟨push_good hr.1 ⟨Or.inr ⟨?_, ?_, Or.inl rfl⟩, hsm.1, hsm.2, ?_, Nat.le_refl _⟩ (Nat.le_refl _) hr.2, span_good hgt hsp, by have := h.made; show σ.made + 1 ≤ 200; omega⟩, rfl⟩
                · have := pre_range (g := g) (t := textOf σ.rest); show 1 ≤ preOf g (textOf σ.rest); omega
                · have := pre_range (g := g) (t := textOf σ.rest); show preOf g (textOf σ.rest) ≤ 22; omega
                · show (topE σ.opn).depth + 1 ≤ 40
                  have hd : (topE σ.opn).depth ≠ 40 := hd
                  omega
theorem behind_fit {M : Nat} {σ τ : PS} (h : Fit M 1 σ) (he : σ.ended = true) (hs : behindM σ = .ok τ) : (Fit M 1 τ ∧ τ.ended = true) ∨ (Fit M 0 τ ∧ τ.ended = false) := by
  unfold behindM at hs
  simp only at hs
  split at hs
  · next hb =>
    have hk := kind_end h.toks.allOk (betw_text hb).1
    have hrg := betw_range (g := (topE σ.opn).reg) (t := textOf σ.rest)
    unfold operatorM at hs
    split at hs
    · cases hs
    · next s1 h1 =>
      obtain ⟨rfl, hm⟩ := make_ok' h1
      split at hs
      · cases hs
      · next lo hi r hsp =>
        have hgt := h.toks.tail hk
        have hsm := span_small hgt hsp
        have hlt : r.length < σ.rest.length := Nat.lt_of_le_of_lt (span_le hsp).length_le (tail_lt (betw_text hb).1)
        have hr := rest_lt h.good hlt (σ.made + 1)
        simp only at hs
        cases hs
        have hM1 : 1 ≤ M := by have := hr.2; omega
        have hg1 : Good (M - 1) 1 { σ with rest := r, made := σ.made + 1 } := ⟨hr.1.ents, hr.1.bot, hr.1.roots, hr.1.need, by show σ.opn.length + σ.nodes.length + r.length ≤ M - 1; have := hr.2; omega⟩
        have hfg := fin_good (lev := (betwK (topE σ.opn).reg (textOf σ.rest)).2) (by omega) _ { σ with rest := r, made := σ.made + 1 } rfl hg1
        have hfr := finM_rest (betwK (topE σ.opn).reg (textOf σ.rest)).2 { σ with rest := r, made := σ.made + 1 }
        have hfd := hfg.depth
        obtain ⟨υ, hυ⟩ : ∃ υ, finM (betwK (topE σ.opn).reg (textOf σ.rest)).2 { σ with rest := r, made := σ.made + 1 } = υ := ⟨_, rfl⟩
        rw [hυ] at hfg hfr hfd
        have hfg2 : Good M 1 υ := ⟨hfg.ents, hfg.bot, hfg.roots, hfg.need, Nat.le_trans hfg.size (by omega)⟩
        refine Or.inr ⟨⟨?_, ?_, ?_⟩, rfl⟩
        · have hg2 := push_good2 (x := ⟨(betwK (topE σ.opn).reg (textOf σ.rest)).1, lo, hi, 2, (betwK (topE σ.opn).reg (textOf σ.rest)).2, [], (topE υ.opn).reg, (topE υ.opn).depth⟩) hfg2 ⟨Or.inr ⟨by show 1 ≤ (betwK (topE σ.opn).reg (textOf σ.rest)).1; omega, by show (betwK (topE σ.opn).reg (textOf σ.rest)).1 ≤ 22; omega, Or.inr rfl⟩, hsm.1, hsm.2, hfd, by show (betwK (topE σ.opn).reg (textOf σ.rest)).2 ≤ 5; omega⟩ rfl (by have := hfg.size; omega) false
          rw [← hυ] at hg2
          exact hg2
        · show GoodT (finM (betwK (topE σ.opn).reg (textOf σ.rest)).2 { σ with rest := r, made := σ.made + 1 }).rest
          rw [(finM_rest _ _).1]
          exact span_good hgt hsp
        · show (finM (betwK (topE σ.opn).reg (textOf σ.rest)).2 { σ with rest := r, made := σ.made + 1 }).made ≤ 200
          rw [(finM_rest _ _).2.1]
          have := h.made
          show σ.made + 1 ≤ 200
          omega
  · split at hs
    · next hst =>
      have hk := kind_end h.toks.allOk (by rw [hst.2]; decide)
      unfold starM at hs
      split at hs
      · cases hs
      · next s1 h1 =>
        obtain ⟨rfl, hm⟩ := make_ok' h1
        cases hs
        obtain ⟨t, r, hr, -⟩ := h.toks.split
        have hnx : next { σ with made := σ.made + 1 } = { σ with rest := r, made := σ.made + 1 } := by unfold next; simp only; rw [hr]; rfl
        rw [hnx]
        have hgt := h.toks.tail hk
        rw [hr] at hgt
        exact Or.inl ⟨⟨star_good h.good hr _ _, hgt, by have := h.made; show σ.made + 1 ≤ 200; omega⟩, he⟩
    · unfold shutM at hs
      simp only at hs
      split at hs
      · cases hs
      · next hn =>
        cases hs
        have hfr := finM_rest 1 σ
        have hfg := fin_good (lev := 1) (Nat.le_refl 1) _ σ rfl h.good
        obtain ⟨υ, hυ⟩ : ∃ υ, finM 1 σ = υ := ⟨_, rfl⟩
        rw [hυ] at hfr hfg hn ⊢
        have hk3 : kindOf υ.rest = 3 := Decidable.byContradiction fun e => hn (Or.inl e)
        have hcl : textOf υ.rest = (topE υ.opn).closer := Decidable.byContradiction fun e => hn (Or.inr e)
        obtain ⟨y, K, hy⟩ := hfg.split
        have hgt : GoodT υ.rest := by rw [hfr.1]; exact h.toks
        obtain ⟨t, r, hr, -⟩ := hgt.split
        have hnx : next υ = { υ with rest := r, made := υ.made } := by unfold next; rw [hr]; rfl
        have hab := hfg.above hy (fun e => by
          have h0 : (topE υ.opn).closer = [] := by rw [hy]; show y.closer = []; rw [e]; rfl
          exact kind_text hgt.allOk hk3 (hcl.trans h0))
        rw [hnx]
        refine Or.inl ⟨⟨end_good (pop_good (next_ok hfg hr _) hy hab), ?_, ?_⟩, rfl⟩
        · rw [end_rest, pop_rest]
          have := hgt.tail (by rw [hk3]; decide)
          rw [hr] at this
          exact this
        · rw [end_made, pop_made]
          show υ.made ≤ 200
          rw [hfr.2.1]
          exact h.made
theorem step_fit {M : Nat} {σ τ : PS} (h : Fit M (eOf σ) σ) (hs : stepM σ = .ok τ) : Fit M (eOf τ) τ := by
  unfold stepM at hs
  unfold eOf at h ⊢
  split at hs
  · next he =>
    rw [if_pos he] at h
    rcases behind_fit h he hs with ⟨h1, h2⟩ | ⟨h1, h2⟩
    · rw [if_pos h2]; exact h1
    · rw [if_neg (by rw [h2]; decide)]; exact h1
  · next he =>
    rw [if_neg he] at h
    rcases begin_fit h hs with ⟨h1, h2⟩ | ⟨h1, h2⟩
    · rw [if_pos h2]; exact h1
    · rw [if_neg (by rw [h2]; exact he)]; exact h1
end Go.Proofs.Ytbehlceacgaebaa.Parse
