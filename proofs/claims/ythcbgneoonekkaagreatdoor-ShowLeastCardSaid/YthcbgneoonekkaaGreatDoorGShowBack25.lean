/-
  The grammar as it is read from the left, word by word: what each part leaves; and the landed reader does the same. The landed reader does what the grammar says. The landed reader does what the grammar says: each part, and the whole.
    Made of several texts by wip/tools/mergetpl.py. By an AI agent.
-/
import Derived.Test.YthcbgneoonekkaaGreatDoorGShowBack22
/- The grammar as it is read from the left, word by word: what each part leaves; and the landed reader does the same. By an AI agent. -/
namespace Go.Proofs.YthcbgneoonekkaaGreatDoor.Parse
open Go.Proofs.YthcbgneoonekkaaGreatDoor.Lex Go.Proofs.YthcbgneoonekkaaGreatDoor.Tree

/-- The parts of the grammar: rows of operands by level, what may stand behind an operand, operands, stars. -/
inductive NT where
  | row (g : Bool) (l : Nat)
  | ops (g : Bool) (l : Nat) (a : Int)
  | opd (g : Bool)
  | rep
  | stars (a : Int)
structure St where
  rest : List Tk
  made : Nat
  nodes : List Nd
inductive Out where
  | ok (s : St) (a : Int)
  | bad (c p : Nat)
/-- The kind of an operator of level l. -/
def opOf (g : Bool) (l : Nat) (t : List UInt8) : Nat := if (betwK g t).2 = l + 1 then (betwK g t).1 else 0
def lvl (g : Bool) : Nat := if g = true then 2 else 4
def nd1 (k : Nat) (lo hi : Int) (ks : List Int) : Nd := ⟨k, ⟨#[]⟩, lo, hi, ks⟩

inductive D : NT → Nat → St → Out → Prop where
  | rowUn {d : Nat} {s : St} {o : Out} : D (.opd false) d s o → D (.row false 4) d s o
  | rowRep {d : Nat} {s : St} {o : Out} : D .rep d s o → D (.row true 2) d s o
  | rowBad {g : Bool} {l d : Nat} {s : St} {c p : Nat} : l < lvl g → D (.row g (l + 1)) d s (.bad c p) → D (.row g l) d s (.bad c p)
  | row {g : Bool} {l d : Nat} {s s1 : St} {a : Int} {o : Out} : l < lvl g → D (.row g (l + 1)) d s (.ok s1 a) → D (.ops g l a) d s1 o → D (.row g l) d s o
  | opsEnd {g : Bool} {l d : Nat} {s : St} {a : Int} : opOf g l (textOf s.rest) = 0 → D (.ops g l a) d s (.ok s a)
  | opsMany {g : Bool} {l d : Nat} {s : St} {a : Int} : opOf g l (textOf s.rest) ≠ 0 → s.made = 200 → D (.ops g l a) d s (.bad 4 (posOf s.rest))
  | opsSpan {g : Bool} {l d : Nat} {s : St} {a : Int} {c p : Nat} : opOf g l (textOf s.rest) ≠ 0 → s.made ≠ 200 → spanM (opOf g l (textOf s.rest)) s.rest.tail = .error (c, p) → D (.ops g l a) d s (.bad c p)
  | opsBad {g : Bool} {l d : Nat} {s : St} {a lo hi : Int} {r : List Tk} {c p : Nat} : opOf g l (textOf s.rest) ≠ 0 → s.made ≠ 200 → spanM (opOf g l (textOf s.rest)) s.rest.tail = .ok (lo, hi, r) →
      D (.row g (l + 1)) d ⟨r, s.made + 1, s.nodes⟩ (.bad c p) → D (.ops g l a) d s (.bad c p)
  | opsGo {g : Bool} {l d : Nat} {s s2 : St} {a b lo hi : Int} {r : List Tk} {o : Out} : opOf g l (textOf s.rest) ≠ 0 → s.made ≠ 200 → spanM (opOf g l (textOf s.rest)) s.rest.tail = .ok (lo, hi, r) →
      D (.row g (l + 1)) d ⟨r, s.made + 1, s.nodes⟩ (.ok s2 b) → D (.ops g l (s2.nodes.length : Int)) d ⟨s2.rest, s2.made, s2.nodes ++ [nd1 (opOf g l (textOf s.rest)) lo hi [a, b]]⟩ o → D (.ops g l a) d s o
  | repBad {d : Nat} {s : St} {c p : Nat} : D (.opd true) d s (.bad c p) → D .rep d s (.bad c p)
  | rep {d : Nat} {s s1 : St} {a : Int} {o : Out} : D (.opd true) d s (.ok s1 a) → D (.stars a) d s1 o → D .rep d s o
  | starsEnd {d : Nat} {s : St} {a : Int} : textOf s.rest ≠ [42] → D (.stars a) d s (.ok s a)
  | starsMany {d : Nat} {s : St} {a : Int} : textOf s.rest = [42] → s.made = 200 → D (.stars a) d s (.bad 4 (posOf s.rest))
  | starsGo {d : Nat} {s : St} {a : Int} {o : Out} : textOf s.rest = [42] → s.made ≠ 200 → D (.stars (s.nodes.length : Int)) d ⟨s.rest.tail, s.made + 1, s.nodes ++ [nd1 22 0 0 [a]]⟩ o → D (.stars a) d s o
  | leafMany {g : Bool} {d : Nat} {s : St} {n : Nd} : leafOf g (textOf s.rest) = some n → s.made = 200 → D (.opd g) d s (.bad 4 (posOf s.rest))
  | leaf {g : Bool} {d : Nat} {s : St} {n : Nd} : leafOf g (textOf s.rest) = some n → s.made ≠ 200 → D (.opd g) d s (.ok ⟨s.rest.tail, s.made + 1, s.nodes ++ [n]⟩ (s.nodes.length : Int))
  | parDeep {g : Bool} {d : Nat} {s : St} : textOf s.rest = [40] → d = 40 → D (.opd g) d s (.bad 3 (posOf s.rest))
  | parBad {g : Bool} {d : Nat} {s : St} {c p : Nat} : textOf s.rest = [40] → d ≠ 40 → D (.row g 0) (d + 1) ⟨s.rest.tail, s.made, s.nodes⟩ (.bad c p) → D (.opd g) d s (.bad c p)
  | parMiss {g : Bool} {d : Nat} {s s1 : St} {a : Int} : textOf s.rest = [40] → d ≠ 40 → D (.row g 0) (d + 1) ⟨s.rest.tail, s.made, s.nodes⟩ (.ok s1 a) → textOf s1.rest ≠ [41] → D (.opd g) d s (.bad 2 (posOf s1.rest))
  | par {g : Bool} {d : Nat} {s s1 : St} {a : Int} : textOf s.rest = [40] → d ≠ 40 → D (.row g 0) (d + 1) ⟨s.rest.tail, s.made, s.nodes⟩ (.ok s1 a) → textOf s1.rest = [41] → D (.opd g) d s (.ok ⟨s1.rest.tail, s1.made, s1.nodes⟩ a)
  | preDeep {g : Bool} {d : Nat} {s : St} : preOf g (textOf s.rest) ≠ 0 → d = 40 → D (.opd g) d s (.bad 3 (posOf s.rest))
  | preMany {g : Bool} {d : Nat} {s : St} : preOf g (textOf s.rest) ≠ 0 → d ≠ 40 → s.made = 200 → D (.opd g) d s (.bad 4 (posOf s.rest))
  | preSpan {g : Bool} {d : Nat} {s : St} {c p : Nat} : preOf g (textOf s.rest) ≠ 0 → d ≠ 40 → s.made ≠ 200 → spanM (preOf g (textOf s.rest)) s.rest.tail = .error (c, p) → D (.opd g) d s (.bad c p)
  | preBad {g : Bool} {d : Nat} {s : St} {lo hi : Int} {r : List Tk} {c p : Nat} : preOf g (textOf s.rest) ≠ 0 → d ≠ 40 → s.made ≠ 200 → spanM (preOf g (textOf s.rest)) s.rest.tail = .ok (lo, hi, r) →
      D (.opd false) (d + 1) ⟨r, s.made + 1, s.nodes⟩ (.bad c p) → D (.opd g) d s (.bad c p)
  | pre {g : Bool} {d : Nat} {s s1 : St} {a lo hi : Int} {r : List Tk} : preOf g (textOf s.rest) ≠ 0 → d ≠ 40 → s.made ≠ 200 → spanM (preOf g (textOf s.rest)) s.rest.tail = .ok (lo, hi, r) →
      D (.opd false) (d + 1) ⟨r, s.made + 1, s.nodes⟩ (.ok s1 a) → D (.opd g) d s (.ok ⟨s1.rest, s1.made, s1.nodes ++ [nd1 (preOf g (textOf s.rest)) lo hi [a]]⟩ (s1.nodes.length : Int))
  | brMany {g : Bool} {d : Nat} {s : St} : braceOf g (textOf s.rest) ≠ 0 → s.made = 200 → D (.opd g) d s (.bad 4 (posOf s.rest))
  | brSpan {g : Bool} {d : Nat} {s : St} {c p : Nat} : braceOf g (textOf s.rest) ≠ 0 → s.made ≠ 200 → spanM (braceOf g (textOf s.rest)) s.rest.tail = .error (c, p) → D (.opd g) d s (.bad c p)
  | brMiss {g : Bool} {d : Nat} {s : St} {lo hi : Int} {r : List Tk} : braceOf g (textOf s.rest) ≠ 0 → s.made ≠ 200 → spanM (braceOf g (textOf s.rest)) s.rest.tail = .ok (lo, hi, r) → textOf r ≠ [123] → D (.opd g) d s (.bad 2 (posOf r))
  | brDeep {g : Bool} {d : Nat} {s : St} {lo hi : Int} {r : List Tk} : braceOf g (textOf s.rest) ≠ 0 → s.made ≠ 200 → spanM (braceOf g (textOf s.rest)) s.rest.tail = .ok (lo, hi, r) → textOf r = [123] → d = 40 → D (.opd g) d s (.bad 3 (posOf r))
  | brBad {g : Bool} {d : Nat} {s : St} {lo hi : Int} {r : List Tk} {c p : Nat} : braceOf g (textOf s.rest) ≠ 0 → s.made ≠ 200 → spanM (braceOf g (textOf s.rest)) s.rest.tail = .ok (lo, hi, r) → textOf r = [123] → d ≠ 40 →
      D (.row true 0) (d + 1) ⟨r.tail, s.made + 1, s.nodes⟩ (.bad c p) → D (.opd g) d s (.bad c p)
  | brEnd {g : Bool} {d : Nat} {s s1 : St} {a lo hi : Int} {r : List Tk} : braceOf g (textOf s.rest) ≠ 0 → s.made ≠ 200 → spanM (braceOf g (textOf s.rest)) s.rest.tail = .ok (lo, hi, r) → textOf r = [123] → d ≠ 40 →
      D (.row true 0) (d + 1) ⟨r.tail, s.made + 1, s.nodes⟩ (.ok s1 a) → textOf s1.rest ≠ [125] → D (.opd g) d s (.bad 2 (posOf s1.rest))
  | br {g : Bool} {d : Nat} {s s1 : St} {a lo hi : Int} {r : List Tk} : braceOf g (textOf s.rest) ≠ 0 → s.made ≠ 200 → spanM (braceOf g (textOf s.rest)) s.rest.tail = .ok (lo, hi, r) → textOf r = [123] → d ≠ 40 →
      D (.row true 0) (d + 1) ⟨r.tail, s.made + 1, s.nodes⟩ (.ok s1 a) → textOf s1.rest = [125] → D (.opd g) d s (.ok ⟨s1.rest.tail, s1.made, s1.nodes ++ [nd1 (braceOf g (textOf s.rest)) lo hi [a]]⟩ (s1.nodes.length : Int))
  | none {g : Bool} {d : Nat} {s : St} : leafOf g (textOf s.rest) = none → textOf s.rest ≠ [40] → braceOf g (textOf s.rest) = 0 → preOf g (textOf s.rest) = 0 → D (.opd g) d s (.bad 2 (posOf s.rest))

end Go.Proofs.YthcbgneoonekkaaGreatDoor.Parse

/- The landed reader does what the grammar says. By an AI agent. -/
namespace Go.Proofs.YthcbgneoonekkaaGreatDoor.Parse
open Go.Proofs.YthcbgneoonekkaaGreatDoor.Lex Go.Proofs.YthcbgneoonekkaaGreatDoor.Tree

/-! ### tokens -/
def TokOk (t : Tk) : Prop := (t.kind = 3 ∧ ∃ c r, t.text = c :: r ∧ small c = false) ∨ (t.kind = 1 ∧ ∃ c r, t.text = c :: r ∧ small c = true) ∨ ((t.kind = 2 ∨ t.kind = 0) ∧ t.text = [])
def AllOk (ts : List Tk) : Prop := ∀ t ∈ ts, TokOk t
theorem AllOk.tail {ts : List Tk} (h : AllOk ts) : AllOk ts.tail := fun t ht => h t (List.mem_of_mem_tail ht)
theorem AllOk.suffix {ts us : List Tk} (h : AllOk ts) (hs : us <:+ ts) : AllOk us := fun t ht => h t (hs.subset ht)
theorem kind_end {ts : List Tk} (h : AllOk ts) (ht : textOf ts ≠ []) : kindOf ts ≠ 0 := by
  cases ts with
  | nil => exact absurd rfl ht
  | cons t r =>
    show t.kind ≠ 0
    have ht : t.text ≠ [] := ht
    rcases h t List.mem_cons_self with ⟨h1, -⟩ | ⟨h1, -⟩ | ⟨-, h1⟩
    · omega
    · omega
    · exact absurd h1 ht
theorem kind_sign {ts : List Tk} (h : AllOk ts) {c : UInt8} {r : List UInt8} (ht : textOf ts = c :: r) (hc : small c = false) : kindOf ts = 3 := by
  cases ts with
  | nil => cases ht
  | cons t u =>
    show t.kind = 3
    have ht : t.text = c :: r := ht
    rcases h t List.mem_cons_self with ⟨h1, -⟩ | ⟨-, c', r', h1, h2⟩ | ⟨-, h1⟩
    · exact h1
    · rw [ht] at h1; cases h1; rw [hc] at h2; cases h2
    · rw [ht] at h1; cases h1
theorem kind_text {ts : List Tk} (h : AllOk ts) (hk : kindOf ts = 3) : textOf ts ≠ [] := by
  cases ts with
  | nil => cases hk
  | cons t u =>
    show t.text ≠ []
    have hk : t.kind = 3 := hk
    rcases h t List.mem_cons_self with ⟨-, c, r, h1, -⟩ | ⟨h1, -⟩ | ⟨h1, -⟩
    · rw [h1]; simp
    · omega
    · omega

/-! ### what each token is -/
theorem name_head {t : List UInt8} (h : nameS t = true) : ∃ c r, t = c :: r ∧ small c = true ∧ t ∉ reserved := by
  cases t with
  | nil => cases h
  | cons c r =>
    simp only [nameS, Bool.and_eq_true, decide_eq_true_eq, Bool.not_eq_true', decide_eq_false_iff_not] at h
    exact ⟨c, r, rfl, h.1.1.2, h.2⟩
theorem betw_zero {g : Bool} {t : List UInt8} : (betwK g t).1 = 0 ↔ (betwK g t).2 = 0 := by
  unfold betwK
  repeat' split
  all_goals simp
theorem betw_le (g : Bool) (t : List UInt8) : (betwK g t).2 ≤ lvl g := by
  unfold betwK lvl
  cases g <;> simp <;> (repeat' split) <;> simp
theorem opOf_some {g : Bool} {l : Nat} {t : List UInt8} (h : opOf g l t ≠ 0) : betwK g t = (opOf g l t, l + 1) := by
  unfold opOf at h ⊢
  by_cases e : (betwK g t).2 = l + 1
  · rw [if_pos e]; rw [← e]
  · rw [if_neg e] at h; exact absurd rfl h
theorem opOf_none {g : Bool} {l : Nat} {t : List UInt8} (h : opOf g l t = 0) : (betwK g t).2 ≠ l + 1 := by
  intro e
  unfold opOf at h
  rw [if_pos e] at h
  have := betw_zero.1 h
  omega
theorem betw_text {g : Bool} {t : List UInt8} (h : (betwK g t).1 ≠ 0) : t ≠ [] ∧ t ≠ [41] ∧ t ≠ [125] ∧ t ≠ [42] := by
  refine ⟨?_, ?_, ?_, ?_⟩ <;> (rintro rfl; cases g <;> exact absurd rfl h)
theorem leaf_text {g : Bool} {t : List UInt8} {n : Nd} (h : leafOf g t = some n) : t ≠ [] := by
  rintro rfl
  cases g <;> cases h
theorem pre_text {g : Bool} {t : List UInt8} (h : preOf g t ≠ 0) : t ≠ [] := by
  rintro rfl
  cases g <;> exact absurd rfl h
theorem brace_text {g : Bool} {t : List UInt8} (h : braceOf g t ≠ 0) : t ≠ [] := by
  rintro rfl
  cases g <;> exact absurd rfl h
theorem leaf_par (g : Bool) : leafOf g [40] = none := by cases g <;> rfl
theorem pre_only {g : Bool} {t : List UInt8} (h : preOf g t ≠ 0) : leafOf g t = none ∧ t ≠ [40] ∧ braceOf g t = 0 := by
  cases g with
  | true =>
    unfold preOf at h
    rw [if_pos rfl] at h
    by_cases e : t = [63]
    · subst e; exact ⟨rfl, by decide, rfl⟩
    · rw [if_neg e] at h; exact absurd rfl h
  | false =>
    have key : t ∈ [[33], [112, 114, 101, 118], [110, 101, 120, 116], [111, 110, 99, 101], [104, 105, 115, 116], [115, 111, 109, 101], ([97, 108, 108] : List UInt8)] := by
      unfold preOf aheadK at h
      rw [if_neg (by decide)] at h
      simp only [List.mem_cons, List.not_mem_nil, or_false]
      repeat' split at h
      all_goals first | (simp_all; done) | exact absurd rfl h
    simp only [List.mem_cons, List.not_mem_nil, or_false] at key
    rcases key with rfl | rfl | rfl | rfl | rfl | rfl | rfl <;> exact ⟨by decide +kernel, by decide, by decide +kernel⟩
theorem brace_only {g : Bool} {t : List UInt8} (h : braceOf g t ≠ 0) : leafOf g t = none ∧ t ≠ [40] := by
  cases g with
  | true => exact absurd rfl h
  | false =>
    have key : t = [98, 97, 99, 107] ∨ t = [102, 111, 114, 101] := by
      unfold braceOf at h
      rw [if_neg (by decide)] at h
      split at h
      · exact Or.inl ‹_›
      · split at h
        · exact Or.inr ‹_›
        · exact absurd rfl h
    rcases key with rfl | rfl <;> exact ⟨by decide +kernel, by decide⟩

/-! ### what a step leaves of the tokens -/
theorem fin_rest (lev : Nat) : ∀ (o : List Ent) (σ : PS), (finL lev o σ).rest = σ.rest ∧ (finL lev o σ).made = σ.made ∧ (finL lev o σ).ended = σ.ended
  | [], σ => ⟨rfl, rfl, rfl⟩
  | x :: K, σ => by
    unfold finL
    split
    · have h := fin_rest lev K (popX x K σ)
      have e : (popX x K σ).rest = σ.rest ∧ (popX x K σ).made = σ.made ∧ (popX x K σ).ended = σ.ended := by unfold popX; split <;> exact ⟨rfl, rfl, rfl⟩
      exact ⟨h.1.trans e.1, h.2.1.trans e.2.1, h.2.2.trans e.2.2⟩
    · exact ⟨rfl, rfl, rfl⟩
theorem finM_rest (lev : Nat) (σ : PS) : (finM lev σ).rest = σ.rest ∧ (finM lev σ).made = σ.made ∧ (finM lev σ).ended = σ.ended := fin_rest lev _ σ
theorem span_le {k : Nat} {r : List Tk} {lo hi : Int} {q : List Tk} (h : spanM k r = .ok (lo, hi, q)) : q <:+ r := by
  have t1 : ∀ l : List Tk, l.tail <:+ l := fun l => List.tail_suffix l
  unfold spanM at h
  split at h
  · cases h; exact List.suffix_refl _
  · split at h
    · cases h; exact List.suffix_refl _
    · simp only at h
      split at h
      · cases h
      · split at h
        · cases h
        · split at h
          · split at h
            · cases h
            · cases h
              exact (t1 _).trans ((t1 _).trans ((t1 _).trans ((t1 _).trans (t1 _))))
          · split at h
            · cases h
            · split at h
              · cases h
              · cases h
                exact (t1 _).trans ((t1 _).trans ((t1 _).trans ((t1 _).trans (t1 _))))
theorem D.suffix {nt : NT} {d : Nat} {s : St} {o : Out} (h : D nt d s o) : ∀ s1 a, o = .ok s1 a → s1.rest <:+ s.rest := by
  have t1 : ∀ l : List Tk, l.tail <:+ l := fun l => List.tail_suffix l
  induction h with
  | rowUn _ ih => exact ih
  | rowRep _ ih => exact ih
  | rowBad _ _ _ => intro s1 a e; cases e
  | row _ _ _ ih1 ih2 => intro s1 a e; exact (ih2 s1 a e).trans (ih1 _ _ rfl)
  | opsEnd _ => intro s1 a e; cases e; exact List.suffix_refl _
  | opsMany _ _ => intro s1 a e; cases e
  | opsSpan _ _ _ => intro s1 a e; cases e
  | opsBad _ _ _ _ _ => intro s1 a e; cases e
  | opsGo _ _ hs _ _ ih1 ih2 => intro s1 a e; exact (ih2 s1 a e).trans ((ih1 _ _ rfl).trans ((span_le hs).trans (t1 _)))
  | repBad _ _ => intro s1 a e; cases e
  | rep _ _ ih1 ih2 => intro s1 a e; exact (ih2 s1 a e).trans (ih1 _ _ rfl)
  | starsEnd _ => intro s1 a e; cases e; exact List.suffix_refl _
  | starsMany _ _ => intro s1 a e; cases e
  | starsGo _ _ _ ih => intro s1 a e; exact (ih s1 a e).trans (t1 _)
  | leafMany _ _ => intro s1 a e; cases e
  | leaf _ _ => intro s1 a e; cases e; exact t1 _
  | parDeep _ _ => intro s1 a e; cases e
  | parBad _ _ _ _ => intro s1 a e; cases e
  | parMiss _ _ _ _ _ => intro s1 a e; cases e
  | par _ _ _ _ ih => intro s1 a e; cases e; exact (t1 _).trans ((ih _ _ rfl).trans (t1 _))
  | preDeep _ _ => intro s1 a e; cases e
  | preMany _ _ _ => intro s1 a e; cases e
  | preSpan _ _ _ _ => intro s1 a e; cases e
  | preBad _ _ _ _ _ _ => intro s1 a e; cases e
  | pre _ _ _ hs _ ih => intro s1 a e; cases e; exact (ih _ _ rfl).trans ((span_le hs).trans (t1 _))
  | brMany _ _ => intro s1 a e; cases e
  | brSpan _ _ _ => intro s1 a e; cases e
  | brMiss _ _ _ _ => intro s1 a e; cases e
  | brDeep _ _ _ _ _ => intro s1 a e; cases e
  | brBad _ _ _ _ _ _ _ => intro s1 a e; cases e
  | brEnd _ _ _ _ _ _ _ _ => intro s1 a e; cases e
  | br _ _ hs _ _ _ _ ih => intro s1 a e; cases e; exact (t1 _).trans ((ih _ _ rfl).trans ((t1 _).trans ((span_le hs).trans (t1 _))))
  | none _ _ _ _ => intro s1 a e; cases e

/-! ### runs -/
theorem tail_lt {ts : List Tk} (h : textOf ts ≠ []) : ts.tail.length < ts.length := by
  cases ts with
  | nil => exact absurd rfl h
  | cons t r => simp
theorem make_ok' {σ σ' : PS} (h : makeM σ = .ok σ') : σ' = { σ with made := σ.made + 1 } ∧ σ.made ≠ 200 := by
  unfold makeM at h
  split at h
  · cases h
  · cases h; exact ⟨rfl, ‹_›⟩
theorem end_rest (σ : PS) : (endM σ).rest = σ.rest := (finM_rest 5 σ).1
theorem pop_rest (σ : PS) : (popM σ).rest = σ.rest := by
  unfold popM
  split
  · rfl
  · unfold popX; split <;> rfl
theorem begin_lt {g : Bool} {σ σ' : PS} (h : beginM g σ = .ok σ') : σ'.rest <:+ σ.rest.tail ∧ textOf σ.rest ≠ [] := by
  unfold beginM at h
  split at h
  · next n hn =>
    unfold leafM at h
    split at h
    · cases h
    · next s1 hs =>
      obtain ⟨rfl, -⟩ := make_ok' hs
      cases h
      rw [end_rest]
      exact ⟨List.suffix_refl _, leaf_text hn⟩
  · split at h
    · next ht =>
      unfold bracketM at h
      split at h
      · cases h
      · cases h; exact ⟨List.suffix_refl _, by rw [ht]; decide⟩
    · split at h
      · next hb =>
        unfold bracesM at h
        split at h
        · cases h
        · next s1 hs =>
          obtain ⟨rfl, -⟩ := make_ok' hs
          split at h
          · cases h
          · next lo hi r hsp =>
            split at h
            · cases h
            · unfold bracketM at h
              split at h
              · cases h
              · cases h
                exact ⟨(List.tail_suffix r).trans (span_le hsp), brace_text hb⟩
      · unfold aheadM at h
        split at h
        · cases h
        · next hk =>
          split at h
          · cases h
          · split at h
            · cases h
            · next s1 hs =>
              obtain ⟨rfl, -⟩ := make_ok' hs
              split at h
              · cases h
              · next lo hi r hsp =>
                cases h
                exact ⟨span_le hsp, pre_text hk⟩
theorem behind_lt {σ σ' : PS} (ho : AllOk σ.rest) (h : behindM σ = .ok σ') : σ'.rest <:+ σ.rest.tail ∧ textOf σ.rest ≠ [] := by
  unfold behindM at h
  simp only at h
  split at h
  · next hb =>
    unfold operatorM at h
    split at h
    · cases h
    · next s1 hs =>
      obtain ⟨rfl, -⟩ := make_ok' hs
      split at h
      · cases h
      · next lo hi r hsp =>
        cases h
        refine ⟨?_, (betw_text hb).1⟩
        show (finM _ _).rest <:+ _
        rw [(finM_rest _ _).1]
        exact span_le hsp
  · split at h
    · next hst =>
      unfold starM at h
      split at h
      · cases h
      · next s1 hs =>
        obtain ⟨rfl, -⟩ := make_ok' hs
        cases h
        exact ⟨List.suffix_refl _, by rw [hst.2]; decide⟩
    · unfold shutM at h
      simp only at h
      split at h
      · cases h
      · next hn =>
        cases h
        rw [end_rest, pop_rest]
        show (finM 1 σ).rest.tail <:+ _ ∧ _
        rw [(finM_rest 1 σ).1] at hn ⊢
        have hk : kindOf σ.rest = 3 := by
          rcases Nat.decEq (kindOf σ.rest) 3 with h | h
          · exact absurd (Or.inl h) hn
          · exact h
        exact ⟨List.suffix_refl _, kind_text ho hk⟩
theorem step_lt {σ σ' : PS} (ho : AllOk σ.rest) (h : stepM σ = .ok σ') : σ'.rest <:+ σ.rest.tail ∧ textOf σ.rest ≠ [] := by
  unfold stepM at h
  split at h
  · exact behind_lt ho h
  · exact begin_lt h

theorem step_ok {σ σ' : PS} (ho : AllOk σ.rest) (h : stepM σ = .ok σ') : AllOk σ'.rest ∧ σ'.rest.length < σ.rest.length := by
  obtain ⟨h1, h2⟩ := step_lt ho h
  exact ⟨ho.tail.suffix h1, Nat.lt_of_le_of_lt h1.length_le (tail_lt h2)⟩
theorem run_fuel : ∀ (f : Nat) (σ : PS), AllOk σ.rest → σ.rest.length < f → ∀ g, σ.rest.length < g → runF f σ = runF g σ := by
  intro f
  induction f with
  | zero => intro σ _ h; omega
  | succ f ih =>
    intro σ ho hf g hg
    cases g with
    | zero => omega
    | succ g =>
      unfold runF
      split
      · rfl
      · cases hs : stepM σ with
        | error e => rfl
        | ok σ' =>
          obtain ⟨h1, h2⟩ := step_ok ho hs
          exact ih σ' h1 (by omega) g (by omega)
def runM (σ : PS) : Except Fail PS := runF (σ.rest.length + 1) σ
theorem run_stop {σ : PS} (h : stops σ) : runM σ = .ok σ := by
  unfold runM runF
  rw [if_pos h]
theorem run_err {σ : PS} {e : Fail} (h : ¬ stops σ) (hs : stepM σ = .error e) : runM σ = .error e := by
  unfold runM runF
  rw [if_neg h, hs]
theorem run_go {σ σ' : PS} (ho : AllOk σ.rest) (h : ¬ stops σ) (hs : stepM σ = .ok σ') : runM σ = runM σ' := by
  obtain ⟨h1, h2⟩ := step_ok ho hs
  conv => lhs; unfold runM runF
  rw [if_neg h, hs]
  exact run_fuel _ σ' h1 h2 _ (by omega)
end Go.Proofs.YthcbgneoonekkaaGreatDoor.Parse

/- The landed reader does what the grammar says: each part, and the whole. By an AI agent. -/
namespace Go.Proofs.YthcbgneoonekkaaGreatDoor.Parse
open Go.Proofs.YthcbgneoonekkaaGreatDoor.Lex Go.Proofs.YthcbgneoonekkaaGreatDoor.Tree

theorem pop_opn (x : Ent) (K : List Ent) (σ : PS) : (popX x K σ).opn = K := by unfold popX; split <;> rfl
theorem fin_with (lev : Nat) : ∀ (o : List Ent) (σ : PS) (r : List Tk) (e : Bool) (m : Nat),
    finL lev o ⟨r, e, m, σ.opn, σ.nodes, σ.roots⟩ = ⟨r, e, m, (finL lev o σ).opn, (finL lev o σ).nodes, (finL lev o σ).roots⟩
  | [], σ, r, e, m => rfl
  | x :: K, σ, r, e, m => by
    unfold finL
    split
    · have h : popX x K ⟨r, e, m, σ.opn, σ.nodes, σ.roots⟩ = ⟨r, e, m, (popX x K σ).opn, (popX x K σ).nodes, (popX x K σ).roots⟩ := by unfold popX; split <;> rfl
      rw [h]
      exact fin_with lev K (popX x K σ) r e m
    · rfl
theorem finM_with (lev : Nat) (σ : PS) (r : List Tk) (e : Bool) (m : Nat) : finM lev ⟨r, e, m, σ.opn, σ.nodes, σ.roots⟩ = ⟨r, e, m, (finM lev σ).opn, (finM lev σ).nodes, (finM lev σ).roots⟩ := fin_with lev σ.opn σ r e m
theorem fin_fin {lev lev' : Nat} (h : lev ≤ lev') : ∀ (o : List Ent) (σ : PS), σ.opn = o → finM lev (finL lev' o σ) = finM lev σ
  | [], σ, _ => rfl
  | x :: K, σ, ho => by
    unfold finL
    split
    · rw [fin_fin h K (popX x K σ) (pop_opn x K σ)]
      unfold finM
      rw [pop_opn, ho]
      conv => rhs; unfold finL
      rw [if_pos (by omega)]
    · rfl
theorem finM_finM {lev lev' : Nat} (h : lev ≤ lev') (σ : PS) : finM lev (finM lev' σ) = finM lev σ := fin_fin h _ σ rfl
theorem fin_stop {lev : Nat} {σ : PS} {x : Ent} {K : List Ent} (ho : σ.opn = x :: K) (h : x.level < lev) : finM lev σ = σ := by
  unfold finM
  rw [ho]
  unfold finL
  rw [if_neg (by omega)]
theorem fin_pop {lev : Nat} {σ : PS} {x : Ent} {K : List Ent} (ho : σ.opn = x :: K) (h : lev ≤ x.level) : finM lev σ = finM lev (popX x K σ) := by
  conv => lhs; unfold finM
  rw [ho]
  unfold finL
  rw [if_pos h]
  unfold finM
  rw [pop_opn]
theorem end_with (σ : PS) (e : Bool) : endM ⟨σ.rest, e, σ.made, σ.opn, σ.nodes, σ.roots⟩ = endM σ := by
  unfold endM
  rw [finM_with]
  have := finM_rest 5 σ
  generalize finM 5 σ = τ at *
  obtain ⟨a, b, c, d, e', f⟩ := τ
  obtain ⟨h1, h2, h3⟩ := this
  simp only at h1 h2
  subst h1; subst h2
  rfl

/-! ### the two are one -/
def runW (σ : PS) : Except Fail PS := wholeM (runM σ)
theorem runW_err {σ : PS} {e : Fail} (h : ¬ stops σ) (hs : stepM σ = .error e) : runW σ = .error e := by
  unfold runW; rw [run_err h hs]; rfl
theorem runW_go {σ σ' : PS} (ho : AllOk σ.rest) (h : ¬ stops σ) (hs : stepM σ = .ok σ') : runW σ = runW σ' := by
  unfold runW; rw [run_go ho h hs]
def Ctx (K : List Ent) (g : Bool) (d l : Nat) : Prop := ∃ x K', K = x :: K' ∧ x.reg = g ∧ x.depth = d ∧ x.level ≤ l
theorem Ctx.mono {K : List Ent} {g : Bool} {d l m : Nat} (h : Ctx K g d l) (hl : l ≤ m) : Ctx K g d m := by
  obtain ⟨x, K', h1, h2, h3, h4⟩ := h
  exact ⟨x, K', h1, h2, h3, by omega⟩
def Leads (σ : PS) (o : Out) (P : St → Int → PS → Prop) : Prop := match o with
  | .bad c p => runW σ = .error (c, p)
  | .ok s a => ∃ σ', runW σ = runW σ' ∧ P s a σ'
theorem Leads.trans {σ σ1 : PS} {o : Out} {P : St → Int → PS → Prop} (h : runW σ = runW σ1) (h1 : Leads σ1 o P) : Leads σ o P := by
  cases o with
  | bad c p => exact h.trans h1
  | ok s a => obtain ⟨σ', e, hp⟩ := h1; exact ⟨σ', h.trans e, hp⟩
/-- An operand is whole, but for what is held at level l or tighter. -/
structure Pend (g : Bool) (d l m : Nat) (K : List Ent) (R : List Int) (s : St) (a : Int) (σ : PS) : Prop where
  ended : σ.ended = true
  reg : (topE σ.opn).reg = g
  depth : (topE σ.opn).depth = d
  fin : finM (l + 1) σ = ⟨s.rest, true, s.made, K, s.nodes, a :: R⟩
  op : (betwK g (textOf s.rest)).2 ≤ m
  star : g = true → textOf s.rest ≠ [42]
theorem Pend.rest {g : Bool} {d l m : Nat} {K : List Ent} {R : List Int} {s : St} {a : Int} {σ : PS} (h : Pend g d l m K R s a σ) : σ.rest = s.rest ∧ σ.made = s.made := by
  have h1 := finM_rest (l + 1) σ
  rw [h.fin] at h1
  exact ⟨h1.1.symm, h1.2.1.symm⟩
def SimP : NT → Nat → St → Out → Prop
  | .row g l, d, s, o => ∀ K R, Ctx K g d l → Leads ⟨s.rest, false, s.made, K, s.nodes, R⟩ o (Pend g d l l K R)
  | .ops g l a, d, s, o => ∀ K R σ, Ctx K g d l → Pend g d l (l + 1) K R s a σ → Leads σ o (Pend g d l l K R)
  | .opd g, d, s, o => ∀ K R, Ctx K g d 5 → Leads ⟨s.rest, false, s.made, K, s.nodes, R⟩ o (fun s1 a σ => σ = endM ⟨s1.rest, false, s1.made, K, s1.nodes, a :: R⟩)
  | .rep, d, s, o => ∀ K R, Ctx K true d 2 → Leads ⟨s.rest, false, s.made, K, s.nodes, R⟩ o (fun s1 a σ => σ = ⟨s1.rest, true, s1.made, K, s1.nodes, a :: R⟩ ∧ textOf s1.rest ≠ [42])
  | .stars a, d, s, o => ∀ K R, Ctx K true d 2 → Leads ⟨s.rest, true, s.made, K, s.nodes, a :: R⟩ o (fun s1 a1 σ => σ = ⟨s1.rest, true, s1.made, K, s1.nodes, a1 :: R⟩ ∧ textOf s1.rest ≠ [42])

theorem top_ctx {K : List Ent} {g : Bool} {d l : Nat} (h : Ctx K g d l) : (topE K).reg = g ∧ (topE K).depth = d := by
  obtain ⟨x, K', rfl, h2, h3, -⟩ := h
  exact ⟨h2, h3⟩
theorem fin_ctx {σ : PS} {g : Bool} {d l lev : Nat} (h : Ctx σ.opn g d l) (hl : l < lev) : finM lev σ = σ := by
  obtain ⟨x, K', h1, -, -, h4⟩ := h
  exact fin_stop h1 (Nat.lt_of_le_of_lt h4 hl)
theorem leaf_kids {g : Bool} {t : List UInt8} {n : Nd} (h : leafOf g t = some n) : n.kids = [] := by
  unfold leafOf at h
  repeat' split at h
  all_goals first | cases h; rfl | cases h
theorem begins {s : St} {K : List Ent} {R : List Int} {g : Bool} {d l : Nat} (h : Ctx K g d l) : ¬ stops ⟨s.rest, false, s.made, K, s.nodes, R⟩ ∧ stepM ⟨s.rest, false, s.made, K, s.nodes, R⟩ = beginM g ⟨s.rest, false, s.made, K, s.nodes, R⟩ := by
  refine ⟨(fun h => Bool.noConfusion h.1), ?_⟩
  unfold stepM
  rw [if_neg (by simp)]
  show beginM (topE K).reg _ = _
  rw [(top_ctx h).1]
theorem begin_leaf {g : Bool} {σ : PS} {n : Nd} (h : leafOf g (textOf σ.rest) = some n) : beginM g σ = leafM n σ := by
  unfold beginM; rw [h]
theorem begin_par {g : Bool} {σ : PS} (h : textOf σ.rest = [40]) : beginM g σ = bracketM ⟨0, 0, 0, 0, 0, [41], g, 0⟩ σ := by
  unfold beginM; rw [h, leaf_par]; exact if_pos rfl
theorem begin_brace {g : Bool} {σ : PS} (h : braceOf g (textOf σ.rest) ≠ 0) : beginM g σ = bracesM (braceOf g (textOf σ.rest)) σ := by
  obtain ⟨h1, h2⟩ := brace_only h
  unfold beginM; rw [h1]; simp only; rw [if_neg h2, if_pos h]
theorem begin_pre {g : Bool} {σ : PS} (h : leafOf g (textOf σ.rest) = none) (h1 : textOf σ.rest ≠ [40]) (h2 : braceOf g (textOf σ.rest) = 0) : beginM g σ = aheadM (preOf g (textOf σ.rest)) σ := by
  unfold beginM; rw [h]; simp only; rw [if_neg h1, if_neg (by rw [h2]; simp)]
theorem make_no {σ : PS} (h : σ.made = 200) : makeM σ = .error (4, posOf σ.rest) := by unfold makeM; rw [if_pos h]
theorem make_yes {σ : PS} (h : σ.made ≠ 200) : makeM σ = .ok { σ with made := σ.made + 1 } := by unfold makeM; rw [if_neg h]

/-- Behind an operand that is whole. -/
theorem behind_op {g : Bool} {d l m k lev : Nat} {K : List Ent} {R : List Int} {s : St} {a : Int} {σ : PS} (h : Pend g d l m K R s a σ) (ho : AllOk s.rest) (hk : betwK g (textOf s.rest) = (k, lev)) (h0 : k ≠ 0) : ¬ stops σ ∧ stepM σ = operatorM k lev σ := by
  have ht := (betw_text (g := g) (t := textOf s.rest) (by rw [hk]; exact h0)).1
  refine ⟨fun h2 => kind_end ho ht (by rw [← h.rest.1]; exact h2.2), ?_⟩
  unfold stepM
  rw [if_pos h.ended]
  unfold behindM
  simp only
  rw [h.reg, h.rest.1, hk]
  simp only
  rw [if_pos h0]
theorem behind_shut {g : Bool} {d l m : Nat} {K : List Ent} {R : List Int} {s : St} {a : Int} {σ : PS} (h : Pend g d l m K R s a σ) (hm : m = 0) (hk : kindOf s.rest ≠ 0) : ¬ stops σ ∧ stepM σ = shutM σ := by
  refine ⟨fun h2 => hk (by rw [← h.rest.1]; exact h2.2), ?_⟩
  have h0 : (betwK g (textOf s.rest)).1 = 0 := betw_zero.2 (by have := h.op; omega)
  unfold stepM
  rw [if_pos h.ended]
  unfold behindM
  simp only
  rw [h.reg, h.rest.1, if_neg (by rw [h0]; simp), if_neg (fun hs => h.star hs.1 hs.2)]
/-- A bracket is missed. -/
theorem shut_miss {g : Bool} {d : Nat} {x y : Ent} {K : List Ent} {R : List Int} {s : St} {a : Int} {σ : PS} (h : Pend g d 0 0 (x :: y :: K) R s a σ) (ht : textOf s.rest ≠ x.closer) : runW σ = .error (2, posOf s.rest) := by
  by_cases hk : kindOf s.rest = 0
  · have hst : stops σ := ⟨h.ended, by rw [h.rest.1]; exact hk⟩
    unfold runW
    rw [run_stop hst]
    unfold wholeM
    simp only
    rw [h.fin, if_pos (by simp)]
  · obtain ⟨h1, h2⟩ := behind_shut h rfl hk
    refine runW_err h1 ?_
    rw [h2]
    unfold shutM
    simp only
    rw [h.fin]
    exact if_pos (Or.inr ht)
/-- A bracket ends. -/
theorem shut_go {g : Bool} {d : Nat} {x : Ent} {K : List Ent} {R : List Int} {s : St} {a : Int} {σ : PS} (h : Pend g d 0 0 (x :: K) R s a σ) (ho : AllOk s.rest) (ht : textOf s.rest = x.closer) {c : UInt8} {r : List UInt8} (hx : x.closer = c :: r) (hc : small c = false) :
    runW σ = runW (endM (popX x K ⟨s.rest.tail, true, s.made, x :: K, s.nodes, a :: R⟩)) := by
  have hk := kind_sign ho (ht.trans hx) hc
  obtain ⟨h1, h2⟩ := behind_shut h rfl (by omega)
  refine runW_go (by rw [h.rest.1]; exact ho) h1 ?_
  rw [h2]
  unfold shutM
  simp only
  rw [h.fin]
  exact if_neg (by rintro (h | h); exact h hk; exact h ht)

theorem sim {nt : NT} {d : Nat} {s : St} {o : Out} (h : D nt d s o) : AllOk s.rest → SimP nt d s o := by
  induction h with
  | @rowUn d s o _ ih =>
    intro ho K R hK
    have := ih ho K R (hK.mono (by omega))
    cases o with
    | bad c p => exact this
    | ok s1 a =>
      obtain ⟨σ', e, rfl⟩ := this
      refine ⟨_, e, ?_⟩
      have hf := fin_ctx (σ := ⟨s1.rest, false, s1.made, K, s1.nodes, a :: R⟩) hK (lev := 5) (by omega)
      have he : endM ⟨s1.rest, false, s1.made, K, s1.nodes, a :: R⟩ = ⟨s1.rest, true, s1.made, K, s1.nodes, a :: R⟩ := by unfold endM; rw [hf]
      rw [he]
      exact ⟨rfl, (top_ctx hK).1, (top_ctx hK).2, fin_ctx (σ := ⟨s1.rest, true, s1.made, K, s1.nodes, a :: R⟩) hK (by omega), betw_le _ _, fun h => by cases h⟩
  | @rowRep d s o _ ih =>
    intro ho K R hK
    have := ih ho K R hK
    cases o with
    | bad c p => exact this
    | ok s1 a =>
      obtain ⟨σ', e, rfl, h2⟩ := this
      exact ⟨_, e, rfl, (top_ctx hK).1, (top_ctx hK).2, fin_ctx (σ := ⟨s1.rest, true, s1.made, K, s1.nodes, a :: R⟩) hK (by omega), betw_le _ _, fun _ => h2⟩
  | rowBad _ _ ih => intro ho K R hK; exact ih ho K R (hK.mono (by omega))
  | @row g l d s s1 a o hl h1 h2 ih1 ih2 =>
    intro ho K R hK
    obtain ⟨σ', e, hp⟩ := ih1 ho K R (hK.mono (by omega))
    refine Leads.trans e (ih2 (ho.suffix (h1.suffix _ _ rfl)) K R σ' hK ⟨hp.ended, hp.reg, hp.depth, ?_, hp.op, hp.star⟩)
    rw [← finM_finM (show l + 1 ≤ l + 1 + 1 by omega), hp.fin]
    exact fin_ctx (σ := ⟨s1.rest, true, s1.made, K, s1.nodes, a :: R⟩) hK (by omega)
  | @opsEnd g l d s a h =>
    intro ho K R σ hK hp
    exact ⟨σ, rfl, hp.ended, hp.reg, hp.depth, hp.fin, by have := opOf_none h; have := hp.op; omega, hp.star⟩
  | @opsMany g l d s a h1 h2 =>
    intro ho K R σ hK hp
    obtain ⟨q1, q2⟩ := behind_op hp ho (opOf_some h1) h1
    refine runW_err q1 ?_
    rw [q2]
    unfold operatorM
    rw [make_no (by rw [hp.rest.2]; exact h2), hp.rest.1]
  | @opsSpan g l d s a c p h1 h2 h3 =>
    intro ho K R σ hK hp
    obtain ⟨q1, q2⟩ := behind_op hp ho (opOf_some h1) h1
    refine runW_err q1 ?_
    rw [q2]
    unfold operatorM
    rw [make_yes (by rw [hp.rest.2]; exact h2)]
    simp only
    rw [hp.rest.1, h3]
  | @opsBad g l d s a lo hi r c p h1 h2 h3 h4 ih =>
    intro ho K R σ hK hp
    obtain ⟨q1, q2⟩ := behind_op hp ho (opOf_some h1) h1
    have hr : AllOk r := (ho.tail).suffix (span_le h3)
    have hs : stepM σ = .ok ⟨r, false, s.made + 1, ⟨opOf g l (textOf s.rest), lo, hi, 2, l + 1, [], g, d⟩ :: K, s.nodes, a :: R⟩ := by
      rw [q2]
      unfold operatorM
      rw [make_yes (by rw [hp.rest.2]; exact h2)]
      simp only
      rw [hp.rest.1, h3]
      simp only
      rw [show ({ rest := r, ended := σ.ended, made := σ.made + 1, opn := σ.opn, nodes := σ.nodes, roots := σ.roots } : PS) = ⟨r, σ.ended, σ.made + 1, σ.opn, σ.nodes, σ.roots⟩ from rfl, finM_with, hp.fin, hp.rest.2]
      unfold pushM
      rw [(top_ctx hK).1, (top_ctx hK).2]
    rw [SimP] at ih
    exact (runW_go (by rw [hp.rest.1]; exact ho) q1 hs).trans (ih hr _ _ ⟨_, _, rfl, rfl, rfl, Nat.le_refl _⟩)
  | @opsGo g l d s s2 a b lo hi r o h1 h2 h3 h4 h5 ih1 ih2 =>
    intro ho K R σ hK hp
    obtain ⟨q1, q2⟩ := behind_op hp ho (opOf_some h1) h1
    have hr : AllOk r := (ho.tail).suffix (span_le h3)
    have hs : stepM σ = .ok ⟨r, false, s.made + 1, ⟨opOf g l (textOf s.rest), lo, hi, 2, l + 1, [], g, d⟩ :: K, s.nodes, a :: R⟩ := by
      rw [q2]
      unfold operatorM
      rw [make_yes (by rw [hp.rest.2]; exact h2)]
      simp only
      rw [hp.rest.1, h3]
      simp only
      rw [show ({ rest := r, ended := σ.ended, made := σ.made + 1, opn := σ.opn, nodes := σ.nodes, roots := σ.roots } : PS) = ⟨r, σ.ended, σ.made + 1, σ.opn, σ.nodes, σ.roots⟩ from rfl, finM_with, hp.fin, hp.rest.2]
      unfold pushM
      rw [(top_ctx hK).1, (top_ctx hK).2]
    obtain ⟨σ2, e2, hp2⟩ := ih1 hr (⟨opOf g l (textOf s.rest), lo, hi, 2, l + 1, [], g, d⟩ :: K) (a :: R) ⟨_, _, rfl, rfl, rfl, Nat.le_refl _⟩
    refine Leads.trans ((runW_go (by rw [hp.rest.1]; exact ho) q1 hs).trans e2) (ih2 (hr.suffix (show s2.rest <:+ r from h4.suffix s2 b rfl)) K R σ2 hK ⟨hp2.ended, hp2.reg, hp2.depth, ?_, hp2.op, hp2.star⟩)
    rw [← finM_finM (show l + 1 ≤ l + 1 + 1 by omega), hp2.fin, fin_pop (x := ⟨opOf g l (textOf s.rest), lo, hi, 2, l + 1, [], g, d⟩) (K := K) rfl (Nat.le_refl _)]
    have e3 : popX ⟨opOf g l (textOf s.rest), lo, hi, 2, l + 1, [], g, d⟩ K ⟨s2.rest, true, s2.made, ⟨opOf g l (textOf s.rest), lo, hi, 2, l + 1, [], g, d⟩ :: K, s2.nodes, b :: a :: R⟩ = ⟨s2.rest, true, s2.made, K, s2.nodes ++ [nd1 (opOf g l (textOf s.rest)) lo hi [a, b]], (s2.nodes.length : Int) :: R⟩ := by
      unfold popX
      rw [if_neg h1]
      rfl
    rw [e3]
    exact fin_ctx (σ := ⟨s2.rest, true, s2.made, K, s2.nodes ++ [nd1 (opOf g l (textOf s.rest)) lo hi [a, b]], (s2.nodes.length : Int) :: R⟩) hK (Nat.lt_succ_self l)
  | repBad _ ih => intro ho K R hK; exact ih ho K R (hK.mono (by omega))
  | @rep d s s1 a o h1 h2 ih1 ih2 =>
    intro ho K R hK
    obtain ⟨σ', e, rfl⟩ := ih1 ho K R (hK.mono (by omega))
    have hf := fin_ctx (σ := ⟨s1.rest, false, s1.made, K, s1.nodes, a :: R⟩) hK (lev := 5) (by omega)
    have he : endM ⟨s1.rest, false, s1.made, K, s1.nodes, a :: R⟩ = ⟨s1.rest, true, s1.made, K, s1.nodes, a :: R⟩ := by unfold endM; rw [hf]
    rw [he] at e
    exact Leads.trans e (ih2 (ho.suffix (h1.suffix _ _ rfl)) K R hK)
  | @starsEnd d s a h => intro ho K R hK; exact ⟨_, rfl, rfl, h⟩
  | @starsMany d s a h1 h2 =>
    intro ho K R hK
    have hk := kind_end ho (by rw [h1]; decide)
    refine runW_err (fun h => hk h.2) ?_
    unfold stepM
    rw [if_pos rfl]
    unfold behindM
    simp only
    rw [(top_ctx hK).1, h1, if_neg (by decide), if_pos ⟨rfl, rfl⟩]
    unfold starM
    rw [make_no h2]
  | @starsGo d s a o h1 h2 h3 ih =>
    intro ho K R hK
    have hk := kind_end ho (by rw [h1]; decide)
    refine Leads.trans (runW_go ho (fun h => hk h.2) ?_) (ih ho.tail K R hK)
    unfold stepM
    rw [if_pos rfl]
    unfold behindM
    simp only
    rw [(top_ctx hK).1, h1, if_neg (by decide), if_pos ⟨rfl, rfl⟩]
    unfold starM
    rw [make_yes h2]
    rfl
  | @leafMany g d s n h1 h2 =>
    intro ho K R hK
    obtain ⟨q1, q2⟩ := begins (s := s) (R := R) hK
    refine runW_err q1 (q2.trans ?_)
    rw [begin_leaf (σ := ⟨s.rest, false, s.made, K, s.nodes, R⟩) h1]
    unfold leafM
    rw [make_no h2]
  | @leaf g d s n h1 h2 =>
    intro ho K R hK
    obtain ⟨q1, q2⟩ := begins (s := s) (R := R) hK
    refine ⟨_, runW_go ho q1 (q2.trans ?_), rfl⟩
    rw [begin_leaf (σ := ⟨s.rest, false, s.made, K, s.nodes, R⟩) h1]
    unfold leafM
    rw [make_yes h2]
    have hn : ({ n with kids := [] } : Nd) = n := by
      have := leaf_kids h1
      obtain ⟨k1, k2, k3, k4, k5⟩ := n
      simp only at this
      rw [this]
    show Except.ok (endM (putM n 0 (next _))) = _
    unfold putM next
    simp only [List.take_zero, List.reverse_nil, List.drop_zero]
    rw [hn]
  | @parDeep g d s h1 h2 =>
    intro ho K R hK
    obtain ⟨q1, q2⟩ := begins (s := s) (R := R) hK
    refine runW_err q1 (q2.trans ?_)
    rw [begin_par (σ := ⟨s.rest, false, s.made, K, s.nodes, R⟩) h1]
    unfold bracketM
    exact if_pos ((top_ctx hK).2.trans h2)
  | @parBad g d s c p h1 h2 h3 ih =>
    intro ho K R hK
    obtain ⟨q1, q2⟩ := begins (s := s) (R := R) hK
    have hs : stepM ⟨s.rest, false, s.made, K, s.nodes, R⟩ = .ok ⟨s.rest.tail, false, s.made, ⟨0, 0, 0, 0, 0, [41], g, d + 1⟩ :: K, s.nodes, R⟩ := by
      rw [q2, begin_par (σ := ⟨s.rest, false, s.made, K, s.nodes, R⟩) h1]
      unfold bracketM
      rw [if_neg (fun h => h2 ((top_ctx hK).2.symm.trans h))]
      show Except.ok (pushM { reg := g, depth := (topE K).depth + 1, .. } _) = _
      rw [(top_ctx hK).2]
      rfl
    rw [SimP] at ih
    exact (runW_go ho q1 hs).trans (ih ho.tail _ R ⟨_, _, rfl, rfl, rfl, Nat.le_refl _⟩)
  | @parMiss g d s s1 a h1 h2 h3 h4 ih =>
    intro ho K R hK
    obtain ⟨q1, q2⟩ := begins (s := s) (R := R) hK
    have hs : stepM ⟨s.rest, false, s.made, K, s.nodes, R⟩ = .ok ⟨s.rest.tail, false, s.made, ⟨0, 0, 0, 0, 0, [41], g, d + 1⟩ :: K, s.nodes, R⟩ := by
      rw [q2, begin_par (σ := ⟨s.rest, false, s.made, K, s.nodes, R⟩) h1]
      unfold bracketM
      rw [if_neg (fun h => h2 ((top_ctx hK).2.symm.trans h))]
      show Except.ok (pushM { reg := g, depth := (topE K).depth + 1, .. } _) = _
      rw [(top_ctx hK).2]
      rfl
    obtain ⟨σ', e, hp⟩ := ih ho.tail (⟨0, 0, 0, 0, 0, [41], g, d + 1⟩ :: K) R ⟨_, _, rfl, rfl, rfl, Nat.le_refl _⟩
    obtain ⟨y, K', rfl, -⟩ := hK
    exact ((runW_go ho q1 hs).trans e).trans (shut_miss hp h4)
  | @par g d s s1 a h1 h2 h3 h4 ih =>
    intro ho K R hK
    obtain ⟨q1, q2⟩ := begins (s := s) (R := R) hK
    have hs : stepM ⟨s.rest, false, s.made, K, s.nodes, R⟩ = .ok ⟨s.rest.tail, false, s.made, ⟨0, 0, 0, 0, 0, [41], g, d + 1⟩ :: K, s.nodes, R⟩ := by
      rw [q2, begin_par (σ := ⟨s.rest, false, s.made, K, s.nodes, R⟩) h1]
      unfold bracketM
      rw [if_neg (fun h => h2 ((top_ctx hK).2.symm.trans h))]
      show Except.ok (pushM { reg := g, depth := (topE K).depth + 1, .. } _) = _
      rw [(top_ctx hK).2]
      rfl
    obtain ⟨σ', e, hp⟩ := ih ho.tail (⟨0, 0, 0, 0, 0, [41], g, d + 1⟩ :: K) R ⟨_, _, rfl, rfl, rfl, Nat.le_refl _⟩
    refine ⟨_, ((runW_go ho q1 hs).trans e).trans (shut_go hp (ho.tail.suffix (h3.suffix _ _ rfl)) h4 (c := 41) (r := []) rfl (by decide)), ?_⟩
    exact end_with ⟨s1.rest.tail, false, s1.made, K, s1.nodes, a :: R⟩ true
  | @preDeep g d s h1 h2 =>
    intro ho K R hK
    obtain ⟨q1, q2⟩ := begins (s := s) (R := R) hK
    obtain ⟨k1, k2, k3⟩ := pre_only h1
    refine runW_err q1 (q2.trans ?_)
    rw [begin_pre (σ := ⟨s.rest, false, s.made, K, s.nodes, R⟩) k1 k2 k3]
    unfold aheadM
    rw [if_neg h1]
    exact if_pos ((top_ctx hK).2.trans h2)
  | @preMany g d s h1 h2 h3 =>
    intro ho K R hK
    obtain ⟨q1, q2⟩ := begins (s := s) (R := R) hK
    obtain ⟨k1, k2, k3⟩ := pre_only h1
    refine runW_err q1 (q2.trans ?_)
    rw [begin_pre (σ := ⟨s.rest, false, s.made, K, s.nodes, R⟩) k1 k2 k3]
    unfold aheadM
    rw [if_neg h1, if_neg (fun h => h2 ((top_ctx hK).2.symm.trans h)), make_no h3]
  | @preSpan g d s c p h1 h2 h3 h4 =>
    intro ho K R hK
    obtain ⟨q1, q2⟩ := begins (s := s) (R := R) hK
    obtain ⟨k1, k2, k3⟩ := pre_only h1
    refine runW_err q1 (q2.trans ?_)
    rw [begin_pre (σ := ⟨s.rest, false, s.made, K, s.nodes, R⟩) k1 k2 k3]
    unfold aheadM
    rw [if_neg h1, if_neg (fun h => h2 ((top_ctx hK).2.symm.trans h)), make_yes h3]
    simp only
    rw [h4]
  | @preBad g d s lo hi r c p h1 h2 h3 h4 h5 ih =>
    intro ho K R hK
    obtain ⟨q1, q2⟩ := begins (s := s) (R := R) hK
    obtain ⟨k1, k2, k3⟩ := pre_only h1
    have hs : stepM ⟨s.rest, false, s.made, K, s.nodes, R⟩ = .ok ⟨r, false, s.made + 1, ⟨preOf g (textOf s.rest), lo, hi, 1, 5, [], false, d + 1⟩ :: K, s.nodes, R⟩ := by
      rw [q2, begin_pre (σ := ⟨s.rest, false, s.made, K, s.nodes, R⟩) k1 k2 k3]
      unfold aheadM
      rw [if_neg h1, if_neg (fun h => h2 ((top_ctx hK).2.symm.trans h)), make_yes h3]
      simp only
      rw [h4]
      simp only
      rw [(top_ctx hK).2]
      rfl
    rw [SimP] at ih
    exact (runW_go ho q1 hs).trans (ih (ho.tail.suffix (span_le h4)) _ R ⟨_, _, rfl, rfl, rfl, Nat.le_refl _⟩)
  | @pre g d s s1 a lo hi r h1 h2 h3 h4 h5 ih =>
    intro ho K R hK
    obtain ⟨q1, q2⟩ := begins (s := s) (R := R) hK
    obtain ⟨k1, k2, k3⟩ := pre_only h1
    have hs : stepM ⟨s.rest, false, s.made, K, s.nodes, R⟩ = .ok ⟨r, false, s.made + 1, ⟨preOf g (textOf s.rest), lo, hi, 1, 5, [], false, d + 1⟩ :: K, s.nodes, R⟩ := by
      rw [q2, begin_pre (σ := ⟨s.rest, false, s.made, K, s.nodes, R⟩) k1 k2 k3]
      unfold aheadM
      rw [if_neg h1, if_neg (fun h => h2 ((top_ctx hK).2.symm.trans h)), make_yes h3]
      simp only
      rw [h4]
      simp only
      rw [(top_ctx hK).2]
      rfl
    obtain ⟨σ', e, rfl⟩ := ih (ho.tail.suffix (span_le h4)) (⟨preOf g (textOf s.rest), lo, hi, 1, 5, [], false, d + 1⟩ :: K) R ⟨_, _, rfl, rfl, rfl, Nat.le_refl _⟩
    refine ⟨_, (runW_go ho q1 hs).trans e, ?_⟩
    unfold endM
    rw [fin_pop (x := ⟨preOf g (textOf s.rest), lo, hi, 1, 5, [], false, d + 1⟩) (K := K) rfl (Nat.le_refl _)]
    unfold popX
    rw [if_neg h1]
    rfl
  | @brMany g d s h1 h2 =>
    intro ho K R hK
    obtain ⟨q1, q2⟩ := begins (s := s) (R := R) hK
    refine runW_err q1 (q2.trans ?_)
    rw [begin_brace (σ := ⟨s.rest, false, s.made, K, s.nodes, R⟩) h1]
    unfold bracesM
    rw [make_no h2]
  | @brSpan g d s c p h1 h2 h3 =>
    intro ho K R hK
    obtain ⟨q1, q2⟩ := begins (s := s) (R := R) hK
    refine runW_err q1 (q2.trans ?_)
    rw [begin_brace (σ := ⟨s.rest, false, s.made, K, s.nodes, R⟩) h1]
    unfold bracesM
    rw [make_yes h2]
    simp only
    rw [h3]
  | @brMiss g d s lo hi r h1 h2 h3 h4 =>
    intro ho K R hK
    obtain ⟨q1, q2⟩ := begins (s := s) (R := R) hK
    refine runW_err q1 (q2.trans ?_)
    rw [begin_brace (σ := ⟨s.rest, false, s.made, K, s.nodes, R⟩) h1]
    unfold bracesM
    rw [make_yes h2]
    simp only
    rw [h3]
    exact if_pos h4
  | @brDeep g d s lo hi r h1 h2 h3 h4 h5 =>
    intro ho K R hK
    obtain ⟨q1, q2⟩ := begins (s := s) (R := R) hK
    refine runW_err q1 (q2.trans ?_)
    rw [begin_brace (σ := ⟨s.rest, false, s.made, K, s.nodes, R⟩) h1]
    unfold bracesM
    rw [make_yes h2]
    simp only
    rw [h3]
    simp only
    rw [if_neg (fun h => h h4)]
    unfold bracketM
    exact if_pos ((top_ctx hK).2.trans h5)
  | @brBad g d s lo hi r c p h1 h2 h3 h4 h5 h6 ih =>
    intro ho K R hK
    obtain ⟨q1, q2⟩ := begins (s := s) (R := R) hK
    have hs : stepM ⟨s.rest, false, s.made, K, s.nodes, R⟩ = .ok ⟨r.tail, false, s.made + 1, ⟨braceOf g (textOf s.rest), lo, hi, 1, 0, [125], true, d + 1⟩ :: K, s.nodes, R⟩ := by
      rw [q2, begin_brace (σ := ⟨s.rest, false, s.made, K, s.nodes, R⟩) h1]
      unfold bracesM
      rw [make_yes h2]
      simp only
      rw [h3]
      simp only
      rw [if_neg (fun h => h h4)]
      unfold bracketM
      rw [if_neg (fun h => h5 ((top_ctx hK).2.symm.trans h))]
      show Except.ok (pushM { depth := (topE K).depth + 1, .. } _) = _
      rw [(top_ctx hK).2]
      rfl
    rw [SimP] at ih
    exact (runW_go ho q1 hs).trans (ih (ho.tail.suffix (span_le h3)).tail _ R ⟨_, _, rfl, rfl, rfl, Nat.le_refl _⟩)
  | @brEnd g d s s1 a lo hi r h1 h2 h3 h4 h5 h6 h7 ih =>
    intro ho K R hK
    obtain ⟨q1, q2⟩ := begins (s := s) (R := R) hK
    have hs : stepM ⟨s.rest, false, s.made, K, s.nodes, R⟩ = .ok ⟨r.tail, false, s.made + 1, ⟨braceOf g (textOf s.rest), lo, hi, 1, 0, [125], true, d + 1⟩ :: K, s.nodes, R⟩ := by
      rw [q2, begin_brace (σ := ⟨s.rest, false, s.made, K, s.nodes, R⟩) h1]
      unfold bracesM
      rw [make_yes h2]
      simp only
      rw [h3]
      simp only
      rw [if_neg (fun h => h h4)]
      unfold bracketM
      rw [if_neg (fun h => h5 ((top_ctx hK).2.symm.trans h))]
      show Except.ok (pushM { depth := (topE K).depth + 1, .. } _) = _
      rw [(top_ctx hK).2]
      rfl
    obtain ⟨σ', e, hp⟩ := ih (ho.tail.suffix (span_le h3)).tail (⟨braceOf g (textOf s.rest), lo, hi, 1, 0, [125], true, d + 1⟩ :: K) R ⟨_, _, rfl, rfl, rfl, Nat.le_refl _⟩
    obtain ⟨y, K', rfl, -⟩ := hK
    exact ((runW_go ho q1 hs).trans e).trans (shut_miss hp h7)
  | @br g d s s1 a lo hi r h1 h2 h3 h4 h5 h6 h7 ih =>
    intro ho K R hK
    obtain ⟨q1, q2⟩ := begins (s := s) (R := R) hK
    have hs : stepM ⟨s.rest, false, s.made, K, s.nodes, R⟩ = .ok ⟨r.tail, false, s.made + 1, ⟨braceOf g (textOf s.rest), lo, hi, 1, 0, [125], true, d + 1⟩ :: K, s.nodes, R⟩ := by
      rw [q2, begin_brace (σ := ⟨s.rest, false, s.made, K, s.nodes, R⟩) h1]
      unfold bracesM
      rw [make_yes h2]
      simp only
      rw [h3]
      simp only
      rw [if_neg (fun h => h h4)]
      unfold bracketM
      rw [if_neg (fun h => h5 ((top_ctx hK).2.symm.trans h))]
      show Except.ok (pushM { depth := (topE K).depth + 1, .. } _) = _
      rw [(top_ctx hK).2]
      rfl
    obtain ⟨σ', e, hp⟩ := ih (ho.tail.suffix (span_le h3)).tail (⟨braceOf g (textOf s.rest), lo, hi, 1, 0, [125], true, d + 1⟩ :: K) R ⟨_, _, rfl, rfl, rfl, Nat.le_refl _⟩
    refine ⟨_, ((runW_go ho q1 hs).trans e).trans (shut_go hp ((ho.tail.suffix (span_le h3)).tail.suffix (h6.suffix _ _ rfl)) h7 (c := 125) (r := []) rfl (by decide)), ?_⟩
    unfold popX
    rw [if_neg h1]
    exact end_with ⟨s1.rest.tail, false, s1.made, K, s1.nodes ++ [nd1 (braceOf g (textOf s.rest)) lo hi [a]], (s1.nodes.length : Int) :: R⟩ true
  | @none g d s h1 h2 h3 h4 =>
    intro ho K R hK
    obtain ⟨q1, q2⟩ := begins (s := s) (R := R) hK
    refine runW_err q1 (q2.trans ?_)
    rw [begin_pre (σ := ⟨s.rest, false, s.made, K, s.nodes, R⟩) h1 h2 h3]
    unfold aheadM
    exact if_pos h4

/-- A whole text. -/
def St0 (ts : List Tk) : St := ⟨ts, 0, []⟩
def outD : Out → List Nd × Nat × Nat
  | .bad c p => ([], p, c)
  | .ok s _ => if kindOf s.rest = 0 then (s.nodes, 0, 0) else ([], posOf s.rest, 2)
theorem sim_whole {g : Bool} {ts : List Tk} {o : Out} (ho : AllOk ts) (h : D (.row g 0) 0 (St0 ts) o) : outM (allM g ts) = outD o := by
  have hs := sim h ho [ent0 g] [] ⟨_, _, rfl, rfl, rfl, Nat.le_refl _⟩
  have e : allM g ts = runW (start g ts) := rfl
  rw [e]
  cases o with
  | bad c p =>
    have hs : runW (start g ts) = .error (c, p) := hs
    rw [hs]
    rfl
  | ok s a =>
    obtain ⟨σ, e1, hp⟩ := hs
    have e1 : runW (start g ts) = runW σ := e1
    rw [e1]
    show _ = if kindOf s.rest = 0 then (s.nodes, 0, 0) else ([], posOf s.rest, 2)
    by_cases hk : kindOf s.rest = 0
    · rw [if_pos hk]
      have hst : stops σ := ⟨hp.ended, by rw [hp.rest.1]; exact hk⟩
      unfold runW
      rw [run_stop hst]
      unfold wholeM
      simp only
      rw [hp.fin, if_neg (by simp)]
      rfl
    · rw [if_neg hk]
      obtain ⟨h1, h2⟩ := behind_shut hp rfl hk
      have hs2 : AllOk s.rest := ho.suffix (h.suffix _ _ rfl)
      rw [runW_err (e := (2, posOf s.rest)) h1 (by
        rw [h2]
        unfold shutM
        simp only
        rw [hp.fin]
        refine if_pos ?_
        by_cases h3 : kindOf s.rest = 3
        · exact Or.inr (kind_text hs2 h3)
        · exact Or.inl h3)]
      rfl
end Go.Proofs.YthcbgneoonekkaaGreatDoor.Parse
