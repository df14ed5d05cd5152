/-
  The landed reader does what the grammar says. By an AI agent.
-/
import Derived.Test.YtbljjmgmdcjocaaParseD
namespace Go.Proofs.Ytbljjmgmdcjocaa.Parse
open Go.Proofs.Ytbljjmgmdcjocaa.Lex Go.Proofs.Ytbljjmgmdcjocaa.Tree

/-! ### tokens -/
def TokOk (t : Tk) : Prop := (t.kind = 3 ∧ ∃ c r, t.text = c :: r ∧ small c = false) ∨ (t.kind = 1 ∧ ∃ c r, t.text = c :: r ∧ small c = true) ∨ ((t.kind = 2 ∨ t.kind = 0) ∧ t.text = [])
def AllOk (ts : List Tk) : Prop := ∀ t ∈ ts, TokOk t
theorem AllOk.tail {ts : List Tk} (h : AllOk ts) : AllOk ts.tail := fun t ht => h t (List.mem_of_mem_tail ht)
theorem AllOk.suffix {ts us : List Tk} (h : AllOk ts) (hs : us <:+ ts) : AllOk us := fun t ht => h t (hs.subset ht)
theorem kind_end {ts : List Tk} (h : AllOk ts) (ht : textOf ts ≠ []) : kindOf ts ≠ 0 := by
  cases ts with
  | nil => exact absurd rfl ht
  | cons t r =>
    show t.kind ≠ 0
    have ht : t.text ≠ [] := ht
    rcases h t List.mem_cons_self with ⟨h1, -⟩ | ⟨h1, -⟩ | ⟨-, h1⟩
    · omega
    · omega
    · exact absurd h1 ht
theorem kind_sign {ts : List Tk} (h : AllOk ts) {c : UInt8} {r : List UInt8} (ht : textOf ts = c :: r) (hc : small c = false) : kindOf ts = 3 := by
  cases ts with
  | nil => cases ht
  | cons t u =>
    show t.kind = 3
    have ht : t.text = c :: r := ht
    rcases h t List.mem_cons_self with ⟨h1, -⟩ | ⟨-, c', r', h1, h2⟩ | ⟨-, h1⟩
    · exact h1
    · rw [ht] at h1; cases h1; rw [hc] at h2; cases h2
    · rw [ht] at h1; cases h1
theorem kind_text {ts : List Tk} (h : AllOk ts) (hk : kindOf ts = 3) : textOf ts ≠ [] := by
  cases ts with
  | nil => cases hk
  | cons t u =>
    show t.text ≠ []
    have hk : t.kind = 3 := hk
    rcases h t List.mem_cons_self with ⟨-, c, r, h1, -⟩ | ⟨h1, -⟩ | ⟨h1, -⟩
    · rw [h1]; simp
    · omega
    · omega

/-! ### what each token is -/
theorem name_head {t : List UInt8} (h : nameS t = true) : ∃ c r, t = c :: r ∧ small c = true ∧ t ∉ reserved := by
  cases t with
  | nil => cases h
  | cons c r =>
    simp only [nameS, Bool.and_eq_true, decide_eq_true_eq, Bool.not_eq_true', decide_eq_false_iff_not] at h
    exact ⟨c, r, rfl, h.1.1.2, h.2⟩
theorem betw_zero {g : Bool} {t : List UInt8} : (betwK g t).1 = 0 ↔ (betwK g t).2 = 0 := by
  unfold betwK
  repeat' split
  all_goals simp
theorem betw_le (g : Bool) (t : List UInt8) : (betwK g t).2 ≤ lvl g := by
  unfold betwK lvl
  cases g <;> simp <;> (repeat' split) <;> simp
theorem opOf_some {g : Bool} {l : Nat} {t : List UInt8} (h : opOf g l t ≠ 0) : betwK g t = (opOf g l t, l + 1) := by
  unfold opOf at h ⊢
  by_cases e : (betwK g t).2 = l + 1
  · rw [if_pos e]; rw [← e]
  · rw [if_neg e] at h; exact absurd rfl h
theorem opOf_none {g : Bool} {l : Nat} {t : List UInt8} (h : opOf g l t = 0) : (betwK g t).2 ≠ l + 1 := by
  intro e
  unfold opOf at h
  rw [if_pos e] at h
  have := betw_zero.1 h
  omega
theorem betw_text {g : Bool} {t : List UInt8} (h : (betwK g t).1 ≠ 0) : t ≠ [] ∧ t ≠ [41] ∧ t ≠ [125] ∧ t ≠ [42] := by
  refine ⟨?_, ?_, ?_, ?_⟩ <;> (rintro rfl; cases g <;> exact absurd rfl h)
theorem leaf_text {g : Bool} {t : List UInt8} {n : Nd} (h : leafOf g t = some n) : t ≠ [] := by
  rintro rfl
  cases g <;> cases h
theorem pre_text {g : Bool} {t : List UInt8} (h : preOf g t ≠ 0) : t ≠ [] := by
  rintro rfl
  cases g <;> exact absurd rfl h
theorem brace_text {g : Bool} {t : List UInt8} (h : braceOf g t ≠ 0) : t ≠ [] := by
  rintro rfl
  cases g <;> exact absurd rfl h
theorem leaf_par (g : Bool) : leafOf g [40] = none := by cases g <;> rfl
theorem pre_only {g : Bool} {t : List UInt8} (h : preOf g t ≠ 0) : leafOf g t = none ∧ t ≠ [40] ∧ braceOf g t = 0 := by
  cases g with
  | true =>
    unfold preOf at h
    rw [if_pos rfl] at h
    by_cases e : t = [63]
    · subst e; exact ⟨rfl, by decide, rfl⟩
    · rw [if_neg e] at h; exact absurd rfl h
  | false =>
    have key : t ∈ [[33], [112, 114, 101, 118], [110, 101, 120, 116], [111, 110, 99, 101], [104, 105, 115, 116], [115, 111, 109, 101], ([97, 108, 108] : List UInt8)] := by
      unfold preOf aheadK at h
      rw [if_neg (by decide)] at h
      simp only [List.mem_cons, List.not_mem_nil, or_false]
      repeat' split at h
      all_goals first | (simp_all; done) | exact absurd rfl h
    simp only [List.mem_cons, List.not_mem_nil, or_false] at key
    rcases key with rfl | rfl | rfl | rfl | rfl | rfl | rfl <;> exact ⟨by decide +kernel, by decide, by decide +kernel⟩
theorem brace_only {g : Bool} {t : List UInt8} (h : braceOf g t ≠ 0) : leafOf g t = none ∧ t ≠ [40] := by
  cases g with
  | true => exact absurd rfl h
  | false =>
    have key : t = [98, 97, 99, 107] ∨ t = [102, 111, 114, 101] := by
      unfold braceOf at h
      rw [if_neg (by decide)] at h
      split at h
      · exact Or.inl ‹_›
      · split at h
        · exact Or.inr ‹_›
        · exact absurd rfl h
    rcases key with rfl | rfl <;> exact ⟨by decide +kernel, by decide⟩

/-! ### what a step leaves of the tokens -/
theorem fin_rest (lev : Nat) : ∀ (o : List Ent) (σ : PS), (finL lev o σ).rest = σ.rest ∧ (finL lev o σ).made = σ.made ∧ (finL lev o σ).ended = σ.ended
  | [], σ => ⟨rfl, rfl, rfl⟩
  | x :: K, σ => by
    unfold finL
    split
    · have h := fin_rest lev K (popX x K σ)
      have e : (popX x K σ).rest = σ.rest ∧ (popX x K σ).made = σ.made ∧ (popX x K σ).ended = σ.ended := by unfold popX; split <;> exact ⟨rfl, rfl, rfl⟩
      exact ⟨h.1.trans e.1, h.2.1.trans e.2.1, h.2.2.trans e.2.2⟩
    · exact ⟨rfl, rfl, rfl⟩
theorem finM_rest (lev : Nat) (σ : PS) : (finM lev σ).rest = σ.rest ∧ (finM lev σ).made = σ.made ∧ (finM lev σ).ended = σ.ended := fin_rest lev _ σ
theorem span_le {k : Nat} {r : List Tk} {lo hi : Int} {q : List Tk} (h : spanM k r = .ok (lo, hi, q)) : q <:+ r := by
  have t1 : ∀ l : List Tk, l.tail <:+ l := fun l => List.tail_suffix l
  unfold spanM at h
  split at h
  · cases h; exact List.suffix_refl _
  · split at h
    · cases h; exact List.suffix_refl _
    · simp only at h
      split at h
      · cases h
      · split at h
        · cases h
        · split at h
          · split at h
            · cases h
            · cases h
              exact (t1 _).trans ((t1 _).trans ((t1 _).trans ((t1 _).trans (t1 _))))
          · split at h
            · cases h
            · split at h
              · cases h
              · cases h
                exact (t1 _).trans ((t1 _).trans ((t1 _).trans ((t1 _).trans (t1 _))))
theorem D.suffix {nt : NT} {d : Nat} {s : St} {o : Out} (h : D nt d s o) : ∀ s1 a, o = .ok s1 a → s1.rest <:+ s.rest := by
  have t1 : ∀ l : List Tk, l.tail <:+ l := fun l => List.tail_suffix l
  induction h with
  | rowUn _ ih => exact ih
  | rowRep _ ih => exact ih
  | rowBad _ _ _ => intro s1 a e; cases e
  | row _ _ _ ih1 ih2 => intro s1 a e; exact (ih2 s1 a e).trans (ih1 _ _ rfl)
  | opsEnd _ => intro s1 a e; cases e; exact List.suffix_refl _
  | opsMany _ _ => intro s1 a e; cases e
  | opsSpan _ _ _ => intro s1 a e; cases e
  | opsBad _ _ _ _ _ => intro s1 a e; cases e
  | opsGo _ _ hs _ _ ih1 ih2 => intro s1 a e; exact (ih2 s1 a e).trans ((ih1 _ _ rfl).trans ((span_le hs).trans (t1 _)))
  | repBad _ _ => intro s1 a e; cases e
  | rep _ _ ih1 ih2 => intro s1 a e; exact (ih2 s1 a e).trans (ih1 _ _ rfl)
  | starsEnd _ => intro s1 a e; cases e; exact List.suffix_refl _
  | starsMany _ _ => intro s1 a e; cases e
  | starsGo _ _ _ ih => intro s1 a e; exact (ih s1 a e).trans (t1 _)
  | leafMany _ _ => intro s1 a e; cases e
  | leaf _ _ => intro s1 a e; cases e; exact t1 _
  | parDeep _ _ => intro s1 a e; cases e
  | parBad _ _ _ _ => intro s1 a e; cases e
  | parMiss _ _ _ _ _ => intro s1 a e; cases e
  | par _ _ _ _ ih => intro s1 a e; cases e; exact (t1 _).trans ((ih _ _ rfl).trans (t1 _))
  | preDeep _ _ => intro s1 a e; cases e
  | preMany _ _ _ => intro s1 a e; cases e
  | preSpan _ _ _ _ => intro s1 a e; cases e
  | preBad _ _ _ _ _ _ => intro s1 a e; cases e
  | pre _ _ _ hs _ ih => intro s1 a e; cases e; exact (ih _ _ rfl).trans ((span_le hs).trans (t1 _))
  | brMany _ _ => intro s1 a e; cases e
  | brSpan _ _ _ => intro s1 a e; cases e
  | brMiss _ _ _ _ => intro s1 a e; cases e
  | brDeep _ _ _ _ _ => intro s1 a e; cases e
  | brBad _ _ _ _ _ _ _ => intro s1 a e; cases e
  | brEnd _ _ _ _ _ _ _ _ => intro s1 a e; cases e
  | br _ _ hs _ _ _ _ ih => intro s1 a e; cases e; exact (t1 _).trans ((ih _ _ rfl).trans ((t1 _).trans ((span_le hs).trans (t1 _))))
  | none _ _ _ _ => intro s1 a e; cases e

/-! ### runs -/
theorem tail_lt {ts : List Tk} (h : textOf ts ≠ []) : ts.tail.length < ts.length := by
  cases ts with
  | nil => exact absurd rfl h
  | cons t r => simp
theorem make_ok' {σ σ' : PS} (h : makeM σ = .ok σ') : σ' = { σ with made := σ.made + 1 } ∧ σ.made ≠ 200 := by
  unfold makeM at h
  split at h
  · cases h
  · cases h; exact ⟨rfl, ‹_›⟩
theorem end_rest (σ : PS) : (endM σ).rest = σ.rest := (finM_rest 5 σ).1
theorem pop_rest (σ : PS) : (popM σ).rest = σ.rest := by
  unfold popM
  split
  · rfl
  · unfold popX; split <;> rfl
theorem begin_lt {g : Bool} {σ σ' : PS} (h : beginM g σ = .ok σ') : σ'.rest <:+ σ.rest.tail ∧ textOf σ.rest ≠ [] := by
  unfold beginM at h
  split at h
  · next n hn =>
    unfold leafM at h
    split at h
    · cases h
    · next s1 hs =>
      obtain ⟨rfl, -⟩ := make_ok' hs
      cases h
      rw [end_rest]
      exact ⟨List.suffix_refl _, leaf_text hn⟩
  · split at h
    · next ht =>
      unfold bracketM at h
      split at h
      · cases h
      · cases h; exact ⟨List.suffix_refl _, by rw [ht]; decide⟩
    · split at h
      · next hb =>
        unfold bracesM at h
        split at h
        · cases h
        · next s1 hs =>
          obtain ⟨rfl, -⟩ := make_ok' hs
          split at h
          · cases h
          · next lo hi r hsp =>
            split at h
            · cases h
            · unfold bracketM at h
              split at h
              · cases h
              · cases h
                exact ⟨(List.tail_suffix r).trans (span_le hsp), brace_text hb⟩
      · unfold aheadM at h
        split at h
        · cases h
        · next hk =>
          split at h
          · cases h
          · split at h
            · cases h
            · next s1 hs =>
              obtain ⟨rfl, -⟩ := make_ok' hs
              split at h
              · cases h
              · next lo hi r hsp =>
                cases h
                exact ⟨span_le hsp, pre_text hk⟩
theorem behind_lt {σ σ' : PS} (ho : AllOk σ.rest) (h : behindM σ = .ok σ') : σ'.rest <:+ σ.rest.tail ∧ textOf σ.rest ≠ [] := by
  unfold behindM at h
  simp only at h
  split at h
  · next hb =>
    unfold operatorM at h
    split at h
    · cases h
    · next s1 hs =>
      obtain ⟨rfl, -⟩ := make_ok' hs
      split at h
      · cases h
      · next lo hi r hsp =>
        cases h
        refine ⟨?_, (betw_text hb).1⟩
        show (finM _ _).rest <:+ _
        rw [(finM_rest _ _).1]
        exact span_le hsp
  · split at h
    · next hst =>
      unfold starM at h
      split at h
      · cases h
      · next s1 hs =>
        obtain ⟨rfl, -⟩ := make_ok' hs
        cases h
        exact ⟨List.suffix_refl _, by rw [hst.2]; decide⟩
    · unfold shutM at h
      simp only at h
      split at h
      · cases h
      · next hn =>
        cases h
        rw [end_rest, pop_rest]
        show (finM 1 σ).rest.tail <:+ _ ∧ _
        rw [(finM_rest 1 σ).1] at hn ⊢
        have hk : kindOf σ.rest = 3 := by
          rcases Nat.decEq (kindOf σ.rest) 3 with h | h
          · exact absurd (Or.inl h) hn
          · exact h
        exact ⟨List.suffix_refl _, kind_text ho hk⟩
theorem step_lt {σ σ' : PS} (ho : AllOk σ.rest) (h : stepM σ = .ok σ') : σ'.rest <:+ σ.rest.tail ∧ textOf σ.rest ≠ [] := by
  unfold stepM at h
  split at h
  · exact behind_lt ho h
  · exact begin_lt h

theorem step_ok {σ σ' : PS} (ho : AllOk σ.rest) (h : stepM σ = .ok σ') : AllOk σ'.rest ∧ σ'.rest.length < σ.rest.length := by
  obtain ⟨h1, h2⟩ := step_lt ho h
  exact ⟨ho.tail.suffix h1, Nat.lt_of_le_of_lt h1.length_le (tail_lt h2)⟩
theorem run_fuel : ∀ (f : Nat) (σ : PS), AllOk σ.rest → σ.rest.length < f → ∀ g, σ.rest.length < g → runF f σ = runF g σ := by
  intro f
  induction f with
  | zero => intro σ _ h; omega
  | succ f ih =>
    intro σ ho hf g hg
    cases g with
    | zero => omega
    | succ g =>
      unfold runF
      split
      · rfl
      · cases hs : stepM σ with
        | error e => rfl
        | ok σ' =>
          obtain ⟨h1, h2⟩ := step_ok ho hs
          exact ih σ' h1 (by omega) g (by omega)
def runM (σ : PS) : Except Fail PS := runF (σ.rest.length + 1) σ
theorem run_stop {σ : PS} (h : stops σ) : runM σ = .ok σ := by
  unfold runM runF
  rw [if_pos h]
theorem run_err {σ : PS} {e : Fail} (h : ¬ stops σ) (hs : stepM σ = .error e) : runM σ = .error e := by
  unfold runM runF
  rw [if_neg h, hs]
theorem run_go {σ σ' : PS} (ho : AllOk σ.rest) (h : ¬ stops σ) (hs : stepM σ = .ok σ') : runM σ = runM σ' := by
  obtain ⟨h1, h2⟩ := step_ok ho hs
  conv => lhs; unfold runM runF
  rw [if_neg h, hs]
  exact run_fuel _ σ' h1 h2 _ (by omega)
end Go.Proofs.Ytbljjmgmdcjocaa.Parse
