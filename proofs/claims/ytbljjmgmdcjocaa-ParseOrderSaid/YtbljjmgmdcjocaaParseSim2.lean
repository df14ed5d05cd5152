/-
  The landed reader does what the grammar says: each part, and the whole. By an AI agent.
-/
import Derived.Test.YtbljjmgmdcjocaaParseSim
namespace Go.Proofs.Ytbljjmgmdcjocaa.Parse
open Go.Proofs.Ytbljjmgmdcjocaa.Lex Go.Proofs.Ytbljjmgmdcjocaa.Tree

theorem pop_opn (x : Ent) (K : List Ent) (σ : PS) : (popX x K σ).opn = K := by unfold popX; split <;> rfl
theorem fin_with (lev : Nat) : ∀ (o : List Ent) (σ : PS) (r : List Tk) (e : Bool) (m : Nat),
    finL lev o ⟨r, e, m, σ.opn, σ.nodes, σ.roots⟩ = ⟨r, e, m, (finL lev o σ).opn, (finL lev o σ).nodes, (finL lev o σ).roots⟩
  | [], σ, r, e, m => rfl
  | x :: K, σ, r, e, m => by
    unfold finL
    split
    · have h : popX x K ⟨r, e, m, σ.opn, σ.nodes, σ.roots⟩ = ⟨r, e, m, (popX x K σ).opn, (popX x K σ).nodes, (popX x K σ).roots⟩ := by unfold popX; split <;> rfl
      rw [h]
      exact fin_with lev K (popX x K σ) r e m
    · rfl
theorem finM_with (lev : Nat) (σ : PS) (r : List Tk) (e : Bool) (m : Nat) : finM lev ⟨r, e, m, σ.opn, σ.nodes, σ.roots⟩ = ⟨r, e, m, (finM lev σ).opn, (finM lev σ).nodes, (finM lev σ).roots⟩ := fin_with lev σ.opn σ r e m
theorem fin_fin {lev lev' : Nat} (h : lev ≤ lev') : ∀ (o : List Ent) (σ : PS), σ.opn = o → finM lev (finL lev' o σ) = finM lev σ
  | [], σ, _ => rfl
  | x :: K, σ, ho => by
    unfold finL
    split
    · rw [fin_fin h K (popX x K σ) (pop_opn x K σ)]
      unfold finM
      rw [pop_opn, ho]
      conv => rhs; unfold finL
      rw [if_pos (by omega)]
    · rfl
theorem finM_finM {lev lev' : Nat} (h : lev ≤ lev') (σ : PS) : finM lev (finM lev' σ) = finM lev σ := fin_fin h _ σ rfl
theorem fin_stop {lev : Nat} {σ : PS} {x : Ent} {K : List Ent} (ho : σ.opn = x :: K) (h : x.level < lev) : finM lev σ = σ := by
  unfold finM
  rw [ho]
  unfold finL
  rw [if_neg (by omega)]
theorem fin_pop {lev : Nat} {σ : PS} {x : Ent} {K : List Ent} (ho : σ.opn = x :: K) (h : lev ≤ x.level) : finM lev σ = finM lev (popX x K σ) := by
  conv => lhs; unfold finM
  rw [ho]
  unfold finL
  rw [if_pos h]
  unfold finM
  rw [pop_opn]
theorem end_with (σ : PS) (e : Bool) : endM ⟨σ.rest, e, σ.made, σ.opn, σ.nodes, σ.roots⟩ = endM σ := by
  unfold endM
  rw [finM_with]
  have := finM_rest 5 σ
  generalize finM 5 σ = τ at *
  obtain ⟨a, b, c, d, e', f⟩ := τ
  obtain ⟨h1, h2, h3⟩ := this
  simp only at h1 h2
  subst h1; subst h2
  rfl

/-! ### the two are one -/
def runW (σ : PS) : Except Fail PS := wholeM (runM σ)
theorem runW_err {σ : PS} {e : Fail} (h : ¬ stops σ) (hs : stepM σ = .error e) : runW σ = .error e := by
  unfold runW; rw [run_err h hs]; rfl
theorem runW_go {σ σ' : PS} (ho : AllOk σ.rest) (h : ¬ stops σ) (hs : stepM σ = .ok σ') : runW σ = runW σ' := by
  unfold runW; rw [run_go ho h hs]
def Ctx (K : List Ent) (g : Bool) (d l : Nat) : Prop := ∃ x K', K = x :: K' ∧ x.reg = g ∧ x.depth = d ∧ x.level ≤ l
theorem Ctx.mono {K : List Ent} {g : Bool} {d l m : Nat} (h : Ctx K g d l) (hl : l ≤ m) : Ctx K g d m := by
  obtain ⟨x, K', h1, h2, h3, h4⟩ := h
  exact ⟨x, K', h1, h2, h3, by omega⟩
def Leads (σ : PS) (o : Out) (P : St → Int → PS → Prop) : Prop := match o with
  | .bad c p => runW σ = .error (c, p)
  | .ok s a => ∃ σ', runW σ = runW σ' ∧ P s a σ'
theorem Leads.trans {σ σ1 : PS} {o : Out} {P : St → Int → PS → Prop} (h : runW σ = runW σ1) (h1 : Leads σ1 o P) : Leads σ o P := by
  cases o with
  | bad c p => exact h.trans h1
  | ok s a => obtain ⟨σ', e, hp⟩ := h1; exact ⟨σ', h.trans e, hp⟩
/-- An operand is whole, but for what is held at level l or tighter. -/
structure Pend (g : Bool) (d l m : Nat) (K : List Ent) (R : List Int) (s : St) (a : Int) (σ : PS) : Prop where
  ended : σ.ended = true
  reg : (topE σ.opn).reg = g
  depth : (topE σ.opn).depth = d
  fin : finM (l + 1) σ = ⟨s.rest, true, s.made, K, s.nodes, a :: R⟩
  op : (betwK g (textOf s.rest)).2 ≤ m
  star : g = true → textOf s.rest ≠ [42]
theorem Pend.rest {g : Bool} {d l m : Nat} {K : List Ent} {R : List Int} {s : St} {a : Int} {σ : PS} (h : Pend g d l m K R s a σ) : σ.rest = s.rest ∧ σ.made = s.made := by
  have h1 := finM_rest (l + 1) σ
  rw [h.fin] at h1
  exact ⟨h1.1.symm, h1.2.1.symm⟩
def SimP : NT → Nat → St → Out → Prop
  | .row g l, d, s, o => ∀ K R, Ctx K g d l → Leads ⟨s.rest, false, s.made, K, s.nodes, R⟩ o (Pend g d l l K R)
  | .ops g l a, d, s, o => ∀ K R σ, Ctx K g d l → Pend g d l (l + 1) K R s a σ → Leads σ o (Pend g d l l K R)
  | .opd g, d, s, o => ∀ K R, Ctx K g d 5 → Leads ⟨s.rest, false, s.made, K, s.nodes, R⟩ o (fun s1 a σ => σ = endM ⟨s1.rest, false, s1.made, K, s1.nodes, a :: R⟩)
  | .rep, d, s, o => ∀ K R, Ctx K true d 2 → Leads ⟨s.rest, false, s.made, K, s.nodes, R⟩ o (fun s1 a σ => σ = ⟨s1.rest, true, s1.made, K, s1.nodes, a :: R⟩ ∧ textOf s1.rest ≠ [42])
  | .stars a, d, s, o => ∀ K R, Ctx K true d 2 → Leads ⟨s.rest, true, s.made, K, s.nodes, a :: R⟩ o (fun s1 a1 σ => σ = ⟨s1.rest, true, s1.made, K, s1.nodes, a1 :: R⟩ ∧ textOf s1.rest ≠ [42])

theorem top_ctx {K : List Ent} {g : Bool} {d l : Nat} (h : Ctx K g d l) : (topE K).reg = g ∧ (topE K).depth = d := by
  obtain ⟨x, K', rfl, h2, h3, -⟩ := h
  exact ⟨h2, h3⟩
theorem fin_ctx {σ : PS} {g : Bool} {d l lev : Nat} (h : Ctx σ.opn g d l) (hl : l < lev) : finM lev σ = σ := by
  obtain ⟨x, K', h1, -, -, h4⟩ := h
  exact fin_stop h1 (Nat.lt_of_le_of_lt h4 hl)
theorem leaf_kids {g : Bool} {t : List UInt8} {n : Nd} (h : leafOf g t = some n) : n.kids = [] := by
  unfold leafOf at h
  repeat' split at h
  all_goals first | cases h; rfl | cases h
theorem begins {s : St} {K : List Ent} {R : List Int} {g : Bool} {d l : Nat} (h : Ctx K g d l) : ¬ stops ⟨s.rest, false, s.made, K, s.nodes, R⟩ ∧ stepM ⟨s.rest, false, s.made, K, s.nodes, R⟩ = beginM g ⟨s.rest, false, s.made, K, s.nodes, R⟩ := by
  refine ⟨(fun h => Bool.noConfusion h.1), ?_⟩
  unfold stepM
  rw [if_neg (by simp)]
  show beginM (topE K).reg _ = _
  rw [(top_ctx h).1]
theorem begin_leaf {g : Bool} {σ : PS} {n : Nd} (h : leafOf g (textOf σ.rest) = some n) : beginM g σ = leafM n σ := by
  unfold beginM; rw [h]
theorem begin_par {g : Bool} {σ : PS} (h : textOf σ.rest = [40]) : beginM g σ = bracketM ⟨0, 0, 0, 0, 0, [41], g, 0⟩ σ := by
  unfold beginM; rw [h, leaf_par]; exact if_pos rfl
theorem begin_brace {g : Bool} {σ : PS} (h : braceOf g (textOf σ.rest) ≠ 0) : beginM g σ = bracesM (braceOf g (textOf σ.rest)) σ := by
  obtain ⟨h1, h2⟩ := brace_only h
  unfold beginM; rw [h1]; simp only; rw [if_neg h2, if_pos h]
theorem begin_pre {g : Bool} {σ : PS} (h : leafOf g (textOf σ.rest) = none) (h1 : textOf σ.rest ≠ [40]) (h2 : braceOf g (textOf σ.rest) = 0) : beginM g σ = aheadM (preOf g (textOf σ.rest)) σ := by
  unfold beginM; rw [h]; simp only; rw [if_neg h1, if_neg (by rw [h2]; simp)]
theorem make_no {σ : PS} (h : σ.made = 200) : makeM σ = .error (4, posOf σ.rest) := by unfold makeM; rw [if_pos h]
theorem make_yes {σ : PS} (h : σ.made ≠ 200) : makeM σ = .ok { σ with made := σ.made + 1 } := by unfold makeM; rw [if_neg h]

/-- Behind an operand that is whole. -/
theorem behind_op {g : Bool} {d l m k lev : Nat} {K : List Ent} {R : List Int} {s : St} {a : Int} {σ : PS} (h : Pend g d l m K R s a σ) (ho : AllOk s.rest) (hk : betwK g (textOf s.rest) = (k, lev)) (h0 : k ≠ 0) : ¬ stops σ ∧ stepM σ = operatorM k lev σ := by
  have ht := (betw_text (g := g) (t := textOf s.rest) (by rw [hk]; exact h0)).1
  refine ⟨fun h2 => kind_end ho ht (by rw [← h.rest.1]; exact h2.2), ?_⟩
  unfold stepM
  rw [if_pos h.ended]
  unfold behindM
  simp only
  rw [h.reg, h.rest.1, hk]
  simp only
  rw [if_pos h0]
theorem behind_shut {g : Bool} {d l m : Nat} {K : List Ent} {R : List Int} {s : St} {a : Int} {σ : PS} (h : Pend g d l m K R s a σ) (hm : m = 0) (hk : kindOf s.rest ≠ 0) : ¬ stops σ ∧ stepM σ = shutM σ := by
  refine ⟨fun h2 => hk (by rw [← h.rest.1]; exact h2.2), ?_⟩
  have h0 : (betwK g (textOf s.rest)).1 = 0 := betw_zero.2 (by have := h.op; omega)
  unfold stepM
  rw [if_pos h.ended]
  unfold behindM
  simp only
  rw [h.reg, h.rest.1, if_neg (by rw [h0]; simp), if_neg (fun hs => h.star hs.1 hs.2)]
/-- A bracket is missed. -/
theorem shut_miss {g : Bool} {d : Nat} {x y : Ent} {K : List Ent} {R : List Int} {s : St} {a : Int} {σ : PS} (h : Pend g d 0 0 (x :: y :: K) R s a σ) (ht : textOf s.rest ≠ x.closer) : runW σ = .error (2, posOf s.rest) := by
  by_cases hk : kindOf s.rest = 0
  · have hst : stops σ := ⟨h.ended, by rw [h.rest.1]; exact hk⟩
    unfold runW
    rw [run_stop hst]
    unfold wholeM
    simp only
    rw [h.fin, if_pos (by simp)]
  · obtain ⟨h1, h2⟩ := behind_shut h rfl hk
    refine runW_err h1 ?_
    rw [h2]
    unfold shutM
    simp only
    rw [h.fin]
    exact if_pos (Or.inr ht)
/-- A bracket ends. -/
theorem shut_go {g : Bool} {d : Nat} {x : Ent} {K : List Ent} {R : List Int} {s : St} {a : Int} {σ : PS} (h : Pend g d 0 0 (x :: K) R s a σ) (ho : AllOk s.rest) (ht : textOf s.rest = x.closer) {c : UInt8} {r : List UInt8} (hx : x.closer = c :: r) (hc : small c = false) :
    runW σ = runW (endM (popX x K ⟨s.rest.tail, true, s.made, x :: K, s.nodes, a :: R⟩)) := by
  have hk := kind_sign ho (ht.trans hx) hc
  obtain ⟨h1, h2⟩ := behind_shut h rfl (by omega)
  refine runW_go (by rw [h.rest.1]; exact ho) h1 ?_
  rw [h2]
  unfold shutM
  simp only
  rw [h.fin]
  exact if_neg (by rintro (h | h); exact h hk; exact h ht)

theorem sim {nt : NT} {d : Nat} {s : St} {o : Out} (h : D nt d s o) : AllOk s.rest → SimP nt d s o := by
  induction h with
  | @rowUn d s o _ ih =>
    intro ho K R hK
    have := ih ho K R (hK.mono (by omega))
    cases o with
    | bad c p => exact this
    | ok s1 a =>
      obtain ⟨σ', e, rfl⟩ := this
      refine ⟨_, e, ?_⟩
      have hf := fin_ctx (σ := ⟨s1.rest, false, s1.made, K, s1.nodes, a :: R⟩) hK (lev := 5) (by omega)
      have he : endM ⟨s1.rest, false, s1.made, K, s1.nodes, a :: R⟩ = ⟨s1.rest, true, s1.made, K, s1.nodes, a :: R⟩ := by unfold endM; rw [hf]
      rw [he]
      exact ⟨rfl, (top_ctx hK).1, (top_ctx hK).2, fin_ctx (σ := ⟨s1.rest, true, s1.made, K, s1.nodes, a :: R⟩) hK (by omega), betw_le _ _, fun h => by cases h⟩
  | @rowRep d s o _ ih =>
    intro ho K R hK
    have := ih ho K R hK
    cases o with
    | bad c p => exact this
    | ok s1 a =>
      obtain ⟨σ', e, rfl, h2⟩ := this
      exact ⟨_, e, rfl, (top_ctx hK).1, (top_ctx hK).2, fin_ctx (σ := ⟨s1.rest, true, s1.made, K, s1.nodes, a :: R⟩) hK (by omega), betw_le _ _, fun _ => h2⟩
  | rowBad _ _ ih => intro ho K R hK; exact ih ho K R (hK.mono (by omega))
  | @row g l d s s1 a o hl h1 h2 ih1 ih2 =>
    intro ho K R hK
    obtain ⟨σ', e, hp⟩ := ih1 ho K R (hK.mono (by omega))
    refine Leads.trans e (ih2 (ho.suffix (h1.suffix _ _ rfl)) K R σ' hK ⟨hp.ended, hp.reg, hp.depth, ?_, hp.op, hp.star⟩)
    rw [← finM_finM (show l + 1 ≤ l + 1 + 1 by omega), hp.fin]
    exact fin_ctx (σ := ⟨s1.rest, true, s1.made, K, s1.nodes, a :: R⟩) hK (by omega)
  | @opsEnd g l d s a h =>
    intro ho K R σ hK hp
    exact ⟨σ, rfl, hp.ended, hp.reg, hp.depth, hp.fin, by have := opOf_none h; have := hp.op; omega, hp.star⟩
  | @opsMany g l d s a h1 h2 =>
    intro ho K R σ hK hp
    obtain ⟨q1, q2⟩ := behind_op hp ho (opOf_some h1) h1
    refine runW_err q1 ?_
    rw [q2]
    unfold operatorM
    rw [make_no (by rw [hp.rest.2]; exact h2), hp.rest.1]
  | @opsSpan g l d s a c p h1 h2 h3 =>
    intro ho K R σ hK hp
    obtain ⟨q1, q2⟩ := behind_op hp ho (opOf_some h1) h1
    refine runW_err q1 ?_
    rw [q2]
    unfold operatorM
    rw [make_yes (by rw [hp.rest.2]; exact h2)]
    simp only
    rw [hp.rest.1, h3]
  | @opsBad g l d s a lo hi r c p h1 h2 h3 h4 ih =>
    intro ho K R σ hK hp
    obtain ⟨q1, q2⟩ := behind_op hp ho (opOf_some h1) h1
    have hr : AllOk r := (ho.tail).suffix (span_le h3)
    have hs : stepM σ = .ok ⟨r, false, s.made + 1, ⟨opOf g l (textOf s.rest), lo, hi, 2, l + 1, [], g, d⟩ :: K, s.nodes, a :: R⟩ := by
      rw [q2]
      unfold operatorM
      rw [make_yes (by rw [hp.rest.2]; exact h2)]
      simp only
      rw [hp.rest.1, h3]
      simp only
      rw [show ({ rest := r, ended := σ.ended, made := σ.made + 1, opn := σ.opn, nodes := σ.nodes, roots := σ.roots } : PS) = ⟨r, σ.ended, σ.made + 1, σ.opn, σ.nodes, σ.roots⟩ from rfl, finM_with, hp.fin, hp.rest.2]
      unfold pushM
      rw [(top_ctx hK).1, (top_ctx hK).2]
    rw [SimP] at ih
    exact (runW_go (by rw [hp.rest.1]; exact ho) q1 hs).trans (ih hr _ _ ⟨_, _, rfl, rfl, rfl, Nat.le_refl _⟩)
  | @opsGo g l d s s2 a b lo hi r o h1 h2 h3 h4 h5 ih1 ih2 =>
    intro ho K R σ hK hp
    obtain ⟨q1, q2⟩ := behind_op hp ho (opOf_some h1) h1
    have hr : AllOk r := (ho.tail).suffix (span_le h3)
    have hs : stepM σ = .ok ⟨r, false, s.made + 1, ⟨opOf g l (textOf s.rest), lo, hi, 2, l + 1, [], g, d⟩ :: K, s.nodes, a :: R⟩ := by
      rw [q2]
      unfold operatorM
      rw [make_yes (by rw [hp.rest.2]; exact h2)]
      simp only
      rw [hp.rest.1, h3]
      simp only
      rw [show ({ rest := r, ended := σ.ended, made := σ.made + 1, opn := σ.opn, nodes := σ.nodes, roots := σ.roots } : PS) = ⟨r, σ.ended, σ.made + 1, σ.opn, σ.nodes, σ.roots⟩ from rfl, finM_with, hp.fin, hp.rest.2]
      unfold pushM
      rw [(top_ctx hK).1, (top_ctx hK).2]
    obtain ⟨σ2, e2, hp2⟩ := ih1 hr (⟨opOf g l (textOf s.rest), lo, hi, 2, l + 1, [], g, d⟩ :: K) (a :: R) ⟨_, _, rfl, rfl, rfl, Nat.le_refl _⟩
    refine Leads.trans ((runW_go (by rw [hp.rest.1]; exact ho) q1 hs).trans e2) (ih2 (hr.suffix (show s2.rest <:+ r from h4.suffix s2 b rfl)) K R σ2 hK ⟨hp2.ended, hp2.reg, hp2.depth, ?_, hp2.op, hp2.star⟩)
    rw [← finM_finM (show l + 1 ≤ l + 1 + 1 by omega), hp2.fin, fin_pop (x := ⟨opOf g l (textOf s.rest), lo, hi, 2, l + 1, [], g, d⟩) (K := K) rfl (Nat.le_refl _)]
    have e3 : popX ⟨opOf g l (textOf s.rest), lo, hi, 2, l + 1, [], g, d⟩ K ⟨s2.rest, true, s2.made, ⟨opOf g l (textOf s.rest), lo, hi, 2, l + 1, [], g, d⟩ :: K, s2.nodes, b :: a :: R⟩ = ⟨s2.rest, true, s2.made, K, s2.nodes ++ [nd1 (opOf g l (textOf s.rest)) lo hi [a, b]], (s2.nodes.length : Int) :: R⟩ := by
      unfold popX
      rw [if_neg h1]
      rfl
    rw [e3]
    exact fin_ctx (σ := ⟨s2.rest, true, s2.made, K, s2.nodes ++ [nd1 (opOf g l (textOf s.rest)) lo hi [a, b]], (s2.nodes.length : Int) :: R⟩) hK (Nat.lt_succ_self l)
  | repBad _ ih => intro ho K R hK; exact ih ho K R (hK.mono (by omega))
  | @rep d s s1 a o h1 h2 ih1 ih2 =>
    intro ho K R hK
    obtain ⟨σ', e, rfl⟩ := ih1 ho K R (hK.mono (by omega))
    have hf := fin_ctx (σ := ⟨s1.rest, false, s1.made, K, s1.nodes, a :: R⟩) hK (lev := 5) (by omega)
    have he : endM ⟨s1.rest, false, s1.made, K, s1.nodes, a :: R⟩ = ⟨s1.rest, true, s1.made, K, s1.nodes, a :: R⟩ := by unfold endM; rw [hf]
    rw [he] at e
    exact Leads.trans e (ih2 (ho.suffix (h1.suffix _ _ rfl)) K R hK)
  | @starsEnd d s a h => intro ho K R hK; exact ⟨_, rfl, rfl, h⟩
  | @starsMany d s a h1 h2 =>
    intro ho K R hK
    have hk := kind_end ho (by rw [h1]; decide)
    refine runW_err (fun h => hk h.2) ?_
    unfold stepM
    rw [if_pos rfl]
    unfold behindM
    simp only
    rw [(top_ctx hK).1, h1, if_neg (by decide), if_pos ⟨rfl, rfl⟩]
    unfold starM
    rw [make_no h2]
  | @starsGo d s a o h1 h2 h3 ih =>
    intro ho K R hK
    have hk := kind_end ho (by rw [h1]; decide)
    refine Leads.trans (runW_go ho (fun h => hk h.2) ?_) (ih ho.tail K R hK)
    unfold stepM
    rw [if_pos rfl]
    unfold behindM
    simp only
    rw [(top_ctx hK).1, h1, if_neg (by decide), if_pos ⟨rfl, rfl⟩]
    unfold starM
    rw [make_yes h2]
    rfl
  | @leafMany g d s n h1 h2 =>
    intro ho K R hK
    obtain ⟨q1, q2⟩ := begins (s := s) (R := R) hK
    refine runW_err q1 (q2.trans ?_)
    rw [begin_leaf (σ := ⟨s.rest, false, s.made, K, s.nodes, R⟩) h1]
    unfold leafM
    rw [make_no h2]
  | @leaf g d s n h1 h2 =>
    intro ho K R hK
    obtain ⟨q1, q2⟩ := begins (s := s) (R := R) hK
    refine ⟨_, runW_go ho q1 (q2.trans ?_), rfl⟩
    rw [begin_leaf (σ := ⟨s.rest, false, s.made, K, s.nodes, R⟩) h1]
    unfold leafM
    rw [make_yes h2]
    have hn : ({ n with kids := [] } : Nd) = n := by
      have := leaf_kids h1
      obtain ⟨k1, k2, k3, k4, k5⟩ := n
      simp only at this
      rw [this]
    show Except.ok (endM (putM n 0 (next _))) = _
    unfold putM next
    simp only [List.take_zero, List.reverse_nil, List.drop_zero]
    rw [hn]
  | @parDeep g d s h1 h2 =>
    intro ho K R hK
    obtain ⟨q1, q2⟩ := begins (s := s) (R := R) hK
    refine runW_err q1 (q2.trans ?_)
    rw [begin_par (σ := ⟨s.rest, false, s.made, K, s.nodes, R⟩) h1]
    unfold bracketM
    exact if_pos ((top_ctx hK).2.trans h2)
  | @parBad g d s c p h1 h2 h3 ih =>
    intro ho K R hK
    obtain ⟨q1, q2⟩ := begins (s := s) (R := R) hK
    have hs : stepM ⟨s.rest, false, s.made, K, s.nodes, R⟩ = .ok ⟨s.rest.tail, false, s.made, ⟨0, 0, 0, 0, 0, [41], g, d + 1⟩ :: K, s.nodes, R⟩ := by
      rw [q2, begin_par (σ := ⟨s.rest, false, s.made, K, s.nodes, R⟩) h1]
      unfold bracketM
      rw [if_neg (fun h => h2 ((top_ctx hK).2.symm.trans h))]
      show Except.ok (pushM { reg := g, depth := (topE K).depth + 1, .. } _) = _
      rw [(top_ctx hK).2]
      rfl
    rw [SimP] at ih
    exact (runW_go ho q1 hs).trans (ih ho.tail _ R ⟨_, _, rfl, rfl, rfl, Nat.le_refl _⟩)
  | @parMiss g d s s1 a h1 h2 h3 h4 ih =>
    intro ho K R hK
    obtain ⟨q1, q2⟩ := begins (s := s) (R := R) hK
    have hs : stepM ⟨s.rest, false, s.made, K, s.nodes, R⟩ = .ok ⟨s.rest.tail, false, s.made, ⟨0, 0, 0, 0, 0, [41], g, d + 1⟩ :: K, s.nodes, R⟩ := by
      rw [q2, begin_par (σ := ⟨s.rest, false, s.made, K, s.nodes, R⟩) h1]
      unfold bracketM
      rw [if_neg (fun h => h2 ((top_ctx hK).2.symm.trans h))]
      show Except.ok (pushM { reg := g, depth := (topE K).depth + 1, .. } _) = _
      rw [(top_ctx hK).2]
      rfl
    obtain ⟨σ', e, hp⟩ := ih ho.tail (⟨0, 0, 0, 0, 0, [41], g, d + 1⟩ :: K) R ⟨_, _, rfl, rfl, rfl, Nat.le_refl _⟩
    obtain ⟨y, K', rfl, -⟩ := hK
    exact ((runW_go ho q1 hs).trans e).trans (shut_miss hp h4)
  | @par g d s s1 a h1 h2 h3 h4 ih =>
    intro ho K R hK
    obtain ⟨q1, q2⟩ := begins (s := s) (R := R) hK
    have hs : stepM ⟨s.rest, false, s.made, K, s.nodes, R⟩ = .ok ⟨s.rest.tail, false, s.made, ⟨0, 0, 0, 0, 0, [41], g, d + 1⟩ :: K, s.nodes, R⟩ := by
      rw [q2, begin_par (σ := ⟨s.rest, false, s.made, K, s.nodes, R⟩) h1]
      unfold bracketM
      rw [if_neg (fun h => h2 ((top_ctx hK).2.symm.trans h))]
      show Except.ok (pushM { reg := g, depth := (topE K).depth + 1, .. } _) = _
      rw [(top_ctx hK).2]
      rfl
    obtain ⟨σ', e, hp⟩ := ih ho.tail (⟨0, 0, 0, 0, 0, [41], g, d + 1⟩ :: K) R ⟨_, _, rfl, rfl, rfl, Nat.le_refl _⟩
    refine ⟨_, ((runW_go ho q1 hs).trans e).trans (shut_go hp (ho.tail.suffix (h3.suffix _ _ rfl)) h4 (c := 41) (r := []) rfl (by decide)), ?_⟩
    exact end_with ⟨s1.rest.tail, false, s1.made, K, s1.nodes, a :: R⟩ true
  | @preDeep g d s h1 h2 =>
    intro ho K R hK
    obtain ⟨q1, q2⟩ := begins (s := s) (R := R) hK
    obtain ⟨k1, k2, k3⟩ := pre_only h1
    refine runW_err q1 (q2.trans ?_)
    rw [begin_pre (σ := ⟨s.rest, false, s.made, K, s.nodes, R⟩) k1 k2 k3]
    unfold aheadM
    rw [if_neg h1]
    exact if_pos ((top_ctx hK).2.trans h2)
  | @preMany g d s h1 h2 h3 =>
    intro ho K R hK
    obtain ⟨q1, q2⟩ := begins (s := s) (R := R) hK
    obtain ⟨k1, k2, k3⟩ := pre_only h1
    refine runW_err q1 (q2.trans ?_)
    rw [begin_pre (σ := ⟨s.rest, false, s.made, K, s.nodes, R⟩) k1 k2 k3]
    unfold aheadM
    rw [if_neg h1, if_neg (fun h => h2 ((top_ctx hK).2.symm.trans h)), make_no h3]
  | @preSpan g d s c p h1 h2 h3 h4 =>
    intro ho K R hK
    obtain ⟨q1, q2⟩ := begins (s := s) (R := R) hK
    obtain ⟨k1, k2, k3⟩ := pre_only h1
    refine runW_err q1 (q2.trans ?_)
    rw [begin_pre (σ := ⟨s.rest, false, s.made, K, s.nodes, R⟩) k1 k2 k3]
    unfold aheadM
    rw [if_neg h1, if_neg (fun h => h2 ((top_ctx hK).2.symm.trans h)), make_yes h3]
    simp only
    rw [h4]
  | @preBad g d s lo hi r c p h1 h2 h3 h4 h5 ih =>
    intro ho K R hK
    obtain ⟨q1, q2⟩ := begins (s := s) (R := R) hK
    obtain ⟨k1, k2, k3⟩ := pre_only h1
    have hs : stepM ⟨s.rest, false, s.made, K, s.nodes, R⟩ = .ok ⟨r, false, s.made + 1, ⟨preOf g (textOf s.rest), lo, hi, 1, 5, [], false, d + 1⟩ :: K, s.nodes, R⟩ := by
      rw [q2, begin_pre (σ := ⟨s.rest, false, s.made, K, s.nodes, R⟩) k1 k2 k3]
      unfold aheadM
      rw [if_neg h1, if_neg (fun h => h2 ((top_ctx hK).2.symm.trans h)), make_yes h3]
      simp only
      rw [h4]
      simp only
      rw [(top_ctx hK).2]
      rfl
    rw [SimP] at ih
    exact (runW_go ho q1 hs).trans (ih (ho.tail.suffix (span_le h4)) _ R ⟨_, _, rfl, rfl, rfl, Nat.le_refl _⟩)
  | @pre g d s s1 a lo hi r h1 h2 h3 h4 h5 ih =>
    intro ho K R hK
    obtain ⟨q1, q2⟩ := begins (s := s) (R := R) hK
    obtain ⟨k1, k2, k3⟩ := pre_only h1
    have hs : stepM ⟨s.rest, false, s.made, K, s.nodes, R⟩ = .ok ⟨r, false, s.made + 1, ⟨preOf g (textOf s.rest), lo, hi, 1, 5, [], false, d + 1⟩ :: K, s.nodes, R⟩ := by
      rw [q2, begin_pre (σ := ⟨s.rest, false, s.made, K, s.nodes, R⟩) k1 k2 k3]
      unfold aheadM
      rw [if_neg h1, if_neg (fun h => h2 ((top_ctx hK).2.symm.trans h)), make_yes h3]
      simp only
      rw [h4]
      simp only
      rw [(top_ctx hK).2]
      rfl
    obtain ⟨σ', e, rfl⟩ := ih (ho.tail.suffix (span_le h4)) (⟨preOf g (textOf s.rest), lo, hi, 1, 5, [], false, d + 1⟩ :: K) R ⟨_, _, rfl, rfl, rfl, Nat.le_refl _⟩
    refine ⟨_, (runW_go ho q1 hs).trans e, ?_⟩
    unfold endM
    rw [fin_pop (x := ⟨preOf g (textOf s.rest), lo, hi, 1, 5, [], false, d + 1⟩) (K := K) rfl (Nat.le_refl _)]
    unfold popX
    rw [if_neg h1]
    rfl
  | @brMany g d s h1 h2 =>
    intro ho K R hK
    obtain ⟨q1, q2⟩ := begins (s := s) (R := R) hK
    refine runW_err q1 (q2.trans ?_)
    rw [begin_brace (σ := ⟨s.rest, false, s.made, K, s.nodes, R⟩) h1]
    unfold bracesM
    rw [make_no h2]
  | @brSpan g d s c p h1 h2 h3 =>
    intro ho K R hK
    obtain ⟨q1, q2⟩ := begins (s := s) (R := R) hK
    refine runW_err q1 (q2.trans ?_)
    rw [begin_brace (σ := ⟨s.rest, false, s.made, K, s.nodes, R⟩) h1]
    unfold bracesM
    rw [make_yes h2]
    simp only
    rw [h3]
  | @brMiss g d s lo hi r h1 h2 h3 h4 =>
    intro ho K R hK
    obtain ⟨q1, q2⟩ := begins (s := s) (R := R) hK
    refine runW_err q1 (q2.trans ?_)
    rw [begin_brace (σ := ⟨s.rest, false, s.made, K, s.nodes, R⟩) h1]
    unfold bracesM
    rw [make_yes h2]
    simp only
    rw [h3]
    exact if_pos h4
  | @brDeep g d s lo hi r h1 h2 h3 h4 h5 =>
    intro ho K R hK
    obtain ⟨q1, q2⟩ := begins (s := s) (R := R) hK
    refine runW_err q1 (q2.trans ?_)
    rw [begin_brace (σ := ⟨s.rest, false, s.made, K, s.nodes, R⟩) h1]
    unfold bracesM
    rw [make_yes h2]
    simp only
    rw [h3]
    simp only
    rw [if_neg (fun h => h h4)]
    unfold bracketM
    exact if_pos ((top_ctx hK).2.trans h5)
  | @brBad g d s lo hi r c p h1 h2 h3 h4 h5 h6 ih =>
    intro ho K R hK
    obtain ⟨q1, q2⟩ := begins (s := s) (R := R) hK
    have hs : stepM ⟨s.rest, false, s.made, K, s.nodes, R⟩ = .ok ⟨r.tail, false, s.made + 1, ⟨braceOf g (textOf s.rest), lo, hi, 1, 0, [125], true, d + 1⟩ :: K, s.nodes, R⟩ := by
      rw [q2, begin_brace (σ := ⟨s.rest, false, s.made, K, s.nodes, R⟩) h1]
      unfold bracesM
      rw [make_yes h2]
      simp only
      rw [h3]
      simp only
      rw [if_neg (fun h => h h4)]
      unfold bracketM
      rw [if_neg (fun h => h5 ((top_ctx hK).2.symm.trans h))]
      show Except.ok (pushM { depth := (topE K).depth + 1, .. } _) = _
      rw [(top_ctx hK).2]
      rfl
    rw [SimP] at ih
    exact (runW_go ho q1 hs).trans (ih (ho.tail.suffix (span_le h3)).tail _ R ⟨_, _, rfl, rfl, rfl, Nat.le_refl _⟩)
  | @brEnd g d s s1 a lo hi r h1 h2 h3 h4 h5 h6 h7 ih =>
    intro ho K R hK
    obtain ⟨q1, q2⟩ := begins (s := s) (R := R) hK
    have hs : stepM ⟨s.rest, false, s.made, K, s.nodes, R⟩ = .ok ⟨r.tail, false, s.made + 1, ⟨braceOf g (textOf s.rest), lo, hi, 1, 0, [125], true, d + 1⟩ :: K, s.nodes, R⟩ := by
      rw [q2, begin_brace (σ := ⟨s.rest, false, s.made, K, s.nodes, R⟩) h1]
      unfold bracesM
      rw [make_yes h2]
      simp only
      rw [h3]
      simp only
      rw [if_neg (fun h => h h4)]
      unfold bracketM
      rw [if_neg (fun h => h5 ((top_ctx hK).2.symm.trans h))]
      show Except.ok (pushM { depth := (topE K).depth + 1, .. } _) = _
      rw [(top_ctx hK).2]
      rfl
    obtain ⟨σ', e, hp⟩ := ih (ho.tail.suffix (span_le h3)).tail (⟨braceOf g (textOf s.rest), lo, hi, 1, 0, [125], true, d + 1⟩ :: K) R ⟨_, _, rfl, rfl, rfl, Nat.le_refl _⟩
    obtain ⟨y, K', rfl, -⟩ := hK
    exact ((runW_go ho q1 hs).trans e).trans (shut_miss hp h7)
  | @br g d s s1 a lo hi r h1 h2 h3 h4 h5 h6 h7 ih =>
    intro ho K R hK
    obtain ⟨q1, q2⟩ := begins (s := s) (R := R) hK
    have hs : stepM ⟨s.rest, false, s.made, K, s.nodes, R⟩ = .ok ⟨r.tail, false, s.made + 1, ⟨braceOf g (textOf s.rest), lo, hi, 1, 0, [125], true, d + 1⟩ :: K, s.nodes, R⟩ := by
      rw [q2, begin_brace (σ := ⟨s.rest, false, s.made, K, s.nodes, R⟩) h1]
      unfold bracesM
      rw [make_yes h2]
      simp only
      rw [h3]
      simp only
      rw [if_neg (fun h => h h4)]
      unfold bracketM
      rw [if_neg (fun h => h5 ((top_ctx hK).2.symm.trans h))]
      show Except.ok (pushM { depth := (topE K).depth + 1, .. } _) = _
      rw [(top_ctx hK).2]
      rfl
    obtain ⟨σ', e, hp⟩ := ih (ho.tail.suffix (span_le h3)).tail (⟨braceOf g (textOf s.rest), lo, hi, 1, 0, [125], true, d + 1⟩ :: K) R ⟨_, _, rfl, rfl, rfl, Nat.le_refl _⟩
    refine ⟨_, ((runW_go ho q1 hs).trans e).trans (shut_go hp ((ho.tail.suffix (span_le h3)).tail.suffix (h6.suffix _ _ rfl)) h7 (c := 125) (r := []) rfl (by decide)), ?_⟩
    unfold popX
    rw [if_neg h1]
    exact end_with ⟨s1.rest.tail, false, s1.made, K, s1.nodes ++ [nd1 (braceOf g (textOf s.rest)) lo hi [a]], (s1.nodes.length : Int) :: R⟩ true
  | @none g d s h1 h2 h3 h4 =>
    intro ho K R hK
    obtain ⟨q1, q2⟩ := begins (s := s) (R := R) hK
    refine runW_err q1 (q2.trans ?_)
    rw [begin_pre (σ := ⟨s.rest, false, s.made, K, s.nodes, R⟩) h1 h2 h3]
    unfold aheadM
    exact if_pos h4

/-- A whole text. -/
def St0 (ts : List Tk) : St := ⟨ts, 0, []⟩
def outD : Out → List Nd × Nat × Nat
  | .bad c p => ([], p, c)
  | .ok s _ => if kindOf s.rest = 0 then (s.nodes, 0, 0) else ([], posOf s.rest, 2)
theorem sim_whole {g : Bool} {ts : List Tk} {o : Out} (ho : AllOk ts) (h : D (.row g 0) 0 (St0 ts) o) : outM (allM g ts) = outD o := by
  have hs := sim h ho [ent0 g] [] ⟨_, _, rfl, rfl, rfl, Nat.le_refl _⟩
  have e : allM g ts = runW (start g ts) := rfl
  rw [e]
  cases o with
  | bad c p =>
    have hs : runW (start g ts) = .error (c, p) := hs
    rw [hs]
    rfl
  | ok s a =>
    obtain ⟨σ, e1, hp⟩ := hs
    have e1 : runW (start g ts) = runW σ := e1
    rw [e1]
    show _ = if kindOf s.rest = 0 then (s.nodes, 0, 0) else ([], posOf s.rest, 2)
    by_cases hk : kindOf s.rest = 0
    · rw [if_pos hk]
      have hst : stops σ := ⟨hp.ended, by rw [hp.rest.1]; exact hk⟩
      unfold runW
      rw [run_stop hst]
      unfold wholeM
      simp only
      rw [hp.fin, if_neg (by simp)]
      rfl
    · rw [if_neg hk]
      obtain ⟨h1, h2⟩ := behind_shut hp rfl hk
      have hs2 : AllOk s.rest := ho.suffix (h.suffix _ _ rfl)
      rw [runW_err (e := (2, posOf s.rest)) h1 (by
        rw [h2]
        unfold shutM
        simp only
        rw [hp.fin]
        refine if_pos ?_
        by_cases h3 : kindOf s.rest = 3
        · exact Or.inr (kind_text hs2 h3)
        · exact Or.inl h3)]
      rfl
end Go.Proofs.Ytbljjmgmdcjocaa.Parse
