/-
  A regular expression as places with edges between them: two rounds over the edges within a point, from the last one to the first, find all (stage 14). By an AI agent.
  The places of a regular expression's graph, point by point from the last one on, find just the ways (stage 14). By an AI agent.
-/
import Derived.Test.YtdbgaccnejffpaaGreatGSatTells2
namespace Go.Proofs.YtdbgaccnejffpaaGreat.Paths
inductive RE where
 | no
 | step
 | test (x : Nat)
 | alt (a b : RE)
 | seq (a b : RE)
 | many (a : RE)
def npl : RE → Nat
 | .alt a b => npl a + npl b
 | .seq a b => 1 + (npl a + npl b)
 | .many a => 1 + npl a
 | _ => 0
def nts : RE → Nat
 | .test _ => 1
 | .alt a b => nts a + nts b
 | .seq a b => nts a + nts b
 | .many a => nts a
 | _ => 0
abbrev Ed := Nat × Nat × Int
def stE : RE → Nat → Nat → Nat → Nat → List Ed
 | .test _, s, t, _, k => [(s, t, (k : Int))]
 | .alt a b, s, t, p, k => stE a s t p k ++ stE b s t (p + npl a) (k + nts a)
 | .seq a b, s, t, p, k => stE a s p (p + 1) k ++ stE b p t (p + 1 + npl a) (k + nts a)
 | .many a, s, t, p, k => (s, p, -1) :: (stE a p p (p + 1) k ++ [(p, t, -1)])
 | _, _, _, _, _ => []
def spE : RE → Nat → Nat → Nat → List Ed
 | .step, s, t, _ => [(s, t, -1)]
 | .alt a b, s, t, p => spE a s t p ++ spE b s t (p + npl a)
 | .seq a b, s, t, p => spE a s p (p + 1) ++ spE b p t (p + 1 + npl a)
 | .many a, _, _, p => spE a p p (p + 1)
 | _, _, _, _ => []
def sw1 (ok : Int → Prop) (e : Ed) (B : Nat → Prop) : Nat → Prop := fun p => B p ∨ (p = e.1 ∧ ok e.2.2 ∧ B e.2.1)
def sw (ok : Int → Prop) (es : List Ed) (B : Nat → Prop) : Nat → Prop := es.foldr (sw1 ok) B
theorem sw_cons (ok : Int → Prop) (e : Ed) (es : List Ed) (B : Nat → Prop) : sw ok (e :: es) B = sw1 ok e (sw ok es B) := rfl
theorem sw_append (ok : Int → Prop) (a b : List Ed) (B : Nat → Prop) : sw ok (a ++ b) B = sw ok a (sw ok b B) := List.foldr_append
theorem sw_ext {ok : Int → Prop} (es : List Ed) {B : Nat → Prop} {q : Nat} (h : B q) : sw ok es B q := by
 induction es with
 | nil => exact h
 | cons e es ih => exact .inl ih
theorem sw_keep {ok : Int → Prop} (es : List Ed) {B : Nat → Prop} {q : Nat} (hq : ∀ e ∈ es, e.1 ≠ q) : sw ok es B q ↔ B q := by
 induction es with
 | nil => exact Iff.rfl
 | cons e es ih =>
  rw [sw_cons]
  constructor
  ·rintro (h | ⟨h, -⟩)
   ·exact (ih (fun e he => hq e (List.mem_cons_of_mem _ he))).1 h
   ·exact absurd h.symm (hq e List.mem_cons_self)
  ·intro h
   exact .inl (sw_ext es h)
theorem sw_within {ok : Int → Prop} (es : List Ed) {B V : Nat → Prop} (hB : ∀ q, B q → V q) (hV : ∀ e ∈ es, ok e.2.2 → V e.2.1 → V e.1) : ∀ q, sw ok es B q → V q := by
 induction es with
 | nil => exact hB
 | cons e es ih =>
  intro q h
  have go := ih (fun e he => hV e (List.mem_cons_of_mem _ he))
  rcases h with h | ⟨rfl, h1, h2⟩
  ·exact go q h
  ·exact hV e List.mem_cons_self h1 (go _ h2)
theorem st_from : ∀ (x : RE) (s t p k : Nat), ∀ e ∈ stE x s t p k, (e.1 = s ∨ (p ≤ e.1 ∧ e.1 < p + npl x)) ∧ (e.2.1 = t ∨ (p ≤ e.2.1 ∧ e.2.1 < p + npl x)) := by
 intro x
 induction x with
 | no => intro s t p k e he; cases he
 | step => intro s t p k e he; cases he
 | test x =>
  intro s t p k e he
  obtain rfl := List.mem_singleton.1 he
  exact ⟨.inl rfl, .inl rfl⟩
 | alt a b iha ihb =>
  intro s t p k e he
  rcases List.mem_append.1 he with he | he
  ·have := iha _ _ _ _ e he
   simp only [npl]; omega
  ·have := ihb _ _ _ _ e he
   simp only [npl]; omega
 | seq a b iha ihb =>
  intro s t p k e he
  rcases List.mem_append.1 he with he | he
  ·have := iha _ _ _ _ e he
   simp only [npl]; omega
  ·have := ihb _ _ _ _ e he
   simp only [npl]; omega
 | many a iha =>
  intro s t p k e he
  rcases List.mem_cons.1 he with rfl | he
  ·exact ⟨.inl rfl, .inr ⟨Nat.le_refl p, show p < p + (1 + npl a) by omega⟩⟩
  ·rcases List.mem_append.1 he with he | he
   ·have := iha _ _ _ _ e he
    simp only [npl]; omega
   ·obtain rfl := List.mem_singleton.1 he
    exact ⟨.inr ⟨Nat.le_refl p, show p < p + (1 + npl a) by omega⟩, .inl rfl⟩
theorem st_keep {ok : Int → Prop} (x : RE) (s t p k : Nat) (B : Nat → Prop) {q : Nat} (hs : q ≠ s) (hq : ¬ (p ≤ q ∧ q < p + npl x)) : sw ok (stE x s t p k) B q ↔ B q :=
 sw_keep _ fun e he hc => by
  have := (st_from x s t p k e he).1
  omega
def thr (ok : Int → Prop) : RE → Nat → Prop
 | .test _, k => ok k
 | .alt a b, k => thr ok a k ∨ thr ok b (k + nts a)
 | .seq a b, k => thr ok a k ∧ thr ok b (k + nts a)
 | .many _, _ => True
 | _, _ => False
def ent (ok : Int → Prop) : RE → Nat → Nat → Nat → Prop
 | .alt a b, p, k, q => ent ok a p k q ∨ ent ok b (p + npl a) (k + nts a) q
 | .seq a b, p, k, q => ent ok a (p + 1) k q ∨ (thr ok a k ∧ (q = p ∨ ent ok b (p + 1 + npl a) (k + nts a) q))
 | .many a, p, k, q => q = p ∨ ent ok a (p + 1) k q
 | _, _, _, _ => False
theorem ent_in {ok : Int → Prop} : ∀ (x : RE) (p k q : Nat), ent ok x p k q → p ≤ q ∧ q < p + npl x := by
 intro x
 induction x with
 | no => intro p k q h; exact h.elim
 | step => intro p k q h; exact h.elim
 | test x => intro p k q h; exact h.elim
 | alt a b iha ihb =>
  intro p k q h
  rcases h with h | h
  ·have := iha _ _ _ h
   simp only [npl]; omega
  ·have := ihb _ _ _ h
   simp only [npl]; omega
 | seq a b iha ihb =>
  intro p k q h
  rcases h with h | ⟨-, h | h⟩
  ·have := iha _ _ _ h
   simp only [npl]; omega
  ·simp only [npl]; omega
  ·have := ihb _ _ _ h
   simp only [npl]; omega
 | many a iha =>
  intro p k q h
  rcases h with h | h
  ·simp only [npl]; omega
  ·have := iha _ _ _ h
   simp only [npl]; omega
theorem sw_least {ok : Int → Prop} (hok : ok (-1)) : ∀ (x : RE) (s t p k : Nat) (B : Nat → Prop), ((thr ok x k ∧ B t) ∨ ∃ q, ent ok x p k q ∧ B q) → sw ok (stE x s t p k) B s := by
 intro x
 induction x with
 | no => intro s t p k B h; rcases h with ⟨h, -⟩ | ⟨q, h, -⟩ <;> exact h.elim
 | step => intro s t p k B h; rcases h with ⟨h, -⟩ | ⟨q, h, -⟩ <;> exact h.elim
 | test x =>
  intro s t p k B h
  rcases h with ⟨h, hb⟩ | ⟨q, h, -⟩
  ·exact .inr ⟨rfl, h, hb⟩
  ·exact h.elim
 | alt a b iha ihb =>
  intro s t p k B h
  unfold stE
  rw [sw_append]
  rcases h with ⟨h | h, hb⟩ | ⟨q, h | h, hb⟩
  ·exact iha s t p k _ (.inl ⟨h, sw_ext _ hb⟩)
  ·exact sw_ext _ (ihb s t _ _ B (.inl ⟨h, hb⟩))
  ·exact iha s t p k _ (.inr ⟨q, h, sw_ext _ hb⟩)
  ·exact sw_ext _ (ihb s t _ _ B (.inr ⟨q, h, hb⟩))
 | seq a b iha ihb =>
  intro s t p k B h
  unfold stE
  rw [sw_append]
  rcases h with ⟨⟨h1, h2⟩, hb⟩ | ⟨q, h | ⟨h1, h2 | h2⟩, hb⟩
  ·exact iha s p _ k _ (.inl ⟨h1, ihb p t _ _ B (.inl ⟨h2, hb⟩)⟩)
  ·exact iha s p _ k _ (.inr ⟨q, h, sw_ext _ hb⟩)
  ·subst h2
   exact iha s q _ k _ (.inl ⟨h1, sw_ext _ hb⟩)
  ·exact iha s p _ k _ (.inl ⟨h1, ihb p t _ _ B (.inr ⟨q, h2, hb⟩)⟩)
 | many a iha =>
  intro s t p k B h
  unfold stE
  rw [sw_cons, sw_append]
  refine .inr ⟨rfl, hok, ?_⟩
  show sw ok (stE a p p (p + 1) k) (sw ok [(p, t, -1)] B) p
  rcases h with ⟨-, hb⟩ | ⟨q, h | h, hb⟩
  ·exact sw_ext _ (.inr ⟨rfl, hok, hb⟩)
  ·subst h
   exact sw_ext _ (sw_ext _ hb)
  ·exact iha p p _ k _ (.inr ⟨q, h, sw_ext _ hb⟩)
theorem sw_most {ok : Int → Prop} : ∀ (x : RE) (s t p k : Nat) (B : Nat → Prop), s < p → t < p → sw ok (stE x s t p k) B s → B s ∨ (thr ok x k ∧ B t) ∨ ∃ q, ent ok x p k q ∧ B q := by
 intro x
 induction x with
 | no => intro s t p k B _ _ h; exact .inl h
 | step => intro s t p k B _ _ h; exact .inl h
 | test x =>
  intro s t p k B _ _ h
  rcases h with h | ⟨-, h1, h2⟩
  ·exact .inl h
  ·exact .inr (.inl ⟨h1, h2⟩)
 | alt a b iha ihb =>
  intro s t p k B hs ht h
  unfold stE at h
  rw [sw_append] at h
  have hb : sw ok (stE b s t (p + npl a) (k + nts a)) B s → B s ∨ (thr ok (.alt a b) k ∧ B t) ∨ ∃ q, ent ok (.alt a b) p k q ∧ B q := fun h => by
   rcases ihb s t _ _ B (by omega) (by omega) h with h | ⟨h1, h2⟩ | ⟨q, h1, h2⟩
   ·exact .inl h
   ·exact .inr (.inl ⟨.inr h1, h2⟩)
   ·exact .inr (.inr ⟨q, .inr h1, h2⟩)
  rcases iha s t p k _ hs ht h with h | ⟨h1, h2⟩ | ⟨q, h1, h2⟩
  ·exact hb h
  ·by_cases hst : t = s
   ·subst hst
    exact hb h2
   ·exact .inr (.inl ⟨.inl h1, (st_keep b s t _ _ B hst (by omega)).1 h2⟩)
  ·have hq := ent_in a p k q h1
   exact .inr (.inr ⟨q, .inl h1, (st_keep b s t _ _ B (by omega) (by omega)).1 h2⟩)
 | seq a b iha ihb =>
  intro s t p k B hs ht h
  unfold stE at h
  rw [sw_append] at h
  rcases iha s p (p + 1) k _ (by omega) (by omega) h with h | ⟨h1, h2⟩ | ⟨q, h1, h2⟩
  ·exact .inl ((st_keep b p t _ _ B (by omega) (by omega)).1 h)
  ·rcases ihb p t _ _ B (by omega) (by omega) h2 with h | ⟨h3, h4⟩ | ⟨q, h3, h4⟩
   ·exact .inr (.inr ⟨p, .inr ⟨h1, .inl rfl⟩, h⟩)
   ·exact .inr (.inl ⟨⟨h1, h3⟩, h4⟩)
   ·exact .inr (.inr ⟨q, .inr ⟨h1, .inr h3⟩, h4⟩)
  ·have hq := ent_in a _ k q h1
   exact .inr (.inr ⟨q, .inl h1, (st_keep b p t _ _ B (by omega) (by omega)).1 h2⟩)
 | many a iha =>
  intro s t p k B hs ht h
  unfold stE at h
  rw [sw_cons, sw_append] at h
  have hp : sw ok (stE a p p (p + 1) k) (sw ok [(p, t, -1)] B) p → B s ∨ (thr ok (.many a) k ∧ B t) ∨ ∃ q, ent ok (.many a) p k q ∧ B q := fun h => by
   have h1 : sw ok [(p, t, -1)] B p → B s ∨ (thr ok (.many a) k ∧ B t) ∨ ∃ q, ent ok (.many a) p k q ∧ B q := fun h => by
    rcases h with h | ⟨-, -, h⟩
    ·exact .inr (.inr ⟨p, .inl rfl, h⟩)
    ·exact .inr (.inl ⟨trivial, h⟩)
   rcases iha p p (p + 1) k _ (by omega) (by omega) h with h | ⟨-, h⟩ | ⟨q, h2, h3⟩
   ·exact h1 h
   ·exact h1 h
   ·have hq := ent_in a _ k q h2
    rcases h3 with h3 | ⟨h3, -⟩
    ·exact .inr (.inr ⟨q, .inr h2, h3⟩)
    ·have : q = p := h3
     omega
  rcases h with h | ⟨-, -, h⟩
  ·have h := (st_keep a p p _ _ _ (by omega) (by omega)).1 h
   rcases h with h | ⟨h, -⟩
   ·exact .inl h
   ·have : s = p := h
    omega
  ·exact hp h
theorem sw_enter {ok : Int → Prop} : ∀ (x : RE) (s t p k : Nat) (B : Nat → Prop) (q : Nat), s < p → t < p → ent ok x p k q → sw ok (stE x s t p k) B q → (∃ y, ent ok x p k y ∧ B y) ∨ (thr ok x k ∧ sw ok (stE x s t p k) B t) := by
 intro x
 induction x with
 | no => intro s t p k B q _ _ h; exact h.elim
 | step => intro s t p k B q _ _ h; exact h.elim
 | test x => intro s t p k B q _ _ h; exact h.elim
 | alt a b iha ihb =>
  intro s t p k B q hs ht he h
  unfold stE at h ⊢
  rw [sw_append] at h ⊢
  rcases he with he | he
  ·rcases iha s t p k _ q hs ht he h with ⟨y, h1, h2⟩ | ⟨h1, h2⟩
   ·have hy := ent_in a p k y h1
    exact .inl ⟨y, .inl h1, (st_keep b s t _ _ B (by omega) (by omega)).1 h2⟩
   ·exact .inr ⟨.inl h1, h2⟩
  ·have hq := ent_in b _ _ q he
   rcases ihb s t _ _ B q (by omega) (by omega) he ((st_keep a s t p k _ (by omega) (by omega)).1 h) with ⟨y, h1, h2⟩ | ⟨h1, h2⟩
   ·exact .inl ⟨y, .inr h1, h2⟩
   ·exact .inr ⟨.inr h1, sw_ext _ h2⟩
 | seq a b iha ihb =>
  intro s t p k B q hs ht he h
  unfold stE at h ⊢
  rw [sw_append] at h ⊢
  have hmid : thr ok a k → sw ok (stE b p t (p + 1 + npl a) (k + nts a)) B p → (∃ y, ent ok (.seq a b) p k y ∧ B y) ∨ (thr ok (.seq a b) k ∧ sw ok (stE a s p (p + 1) k) (sw ok (stE b p t (p + 1 + npl a) (k + nts a)) B) t) := fun h1 h2 => by
   rcases sw_most b p t _ _ B (by omega) (by omega) h2 with h | ⟨h3, h4⟩ | ⟨y, h3, h4⟩
   ·exact .inl ⟨p, .inr ⟨h1, .inl rfl⟩, h⟩
   ·exact .inr ⟨⟨h1, h3⟩, sw_ext _ (sw_ext _ h4)⟩
   ·exact .inl ⟨y, .inr ⟨h1, .inr h3⟩, h4⟩
  rcases he with he | ⟨h1, he | he⟩
  ·rcases iha s p _ k _ q (by omega) (by omega) he h with ⟨y, h1, h2⟩ | ⟨h1, h2⟩
   ·have hy := ent_in a _ k y h1
    exact .inl ⟨y, .inl h1, (st_keep b p t _ _ B (by omega) (by omega)).1 h2⟩
   ·exact hmid h1 ((st_keep a s p _ k _ (by omega) (by omega)).1 h2)
  ·subst he
   exact hmid h1 ((st_keep a s q _ k _ (by omega) (by omega)).1 h)
  ·have hq := ent_in b _ _ q he
   rcases ihb p t _ _ B q (by omega) (by omega) he ((st_keep a s p _ k _ (by omega) (by omega)).1 h) with ⟨y, h2, h3⟩ | ⟨h2, h3⟩
   ·exact .inl ⟨y, .inr ⟨h1, .inr h2⟩, h3⟩
   ·exact .inr ⟨⟨h1, h2⟩, sw_ext _ h3⟩
 | many a iha =>
  intro s t p k B q hs ht he h
  unfold stE at h ⊢
  rw [sw_cons, sw_append] at h ⊢
  have hl : sw ok (stE a p p (p + 1) k) (sw ok [(p, t, -1)] B) p → (∃ y, ent ok (.many a) p k y ∧ B y) ∨ (thr ok (.many a) k ∧ sw1 ok (s, p, -1) (sw ok (stE a p p (p + 1) k) (sw ok [(p, t, -1)] B)) t) := fun h => by
   have h1 : sw ok [(p, t, -1)] B p → (∃ y, ent ok (.many a) p k y ∧ B y) ∨ (thr ok (.many a) k ∧ sw1 ok (s, p, -1) (sw ok (stE a p p (p + 1) k) (sw ok [(p, t, -1)] B)) t) := fun h => by
    rcases h with h | ⟨-, -, h⟩
    ·exact .inl ⟨p, .inl rfl, h⟩
    ·exact .inr ⟨trivial, .inl (sw_ext _ (sw_ext _ h))⟩
   rcases sw_most a p p (p + 1) k _ (by omega) (by omega) h with h | ⟨-, h⟩ | ⟨y, h2, h3⟩
   ·exact h1 h
   ·exact h1 h
   ·have hq := ent_in a _ k y h2
    rcases h3 with h3 | ⟨h3, -⟩
    ·exact .inl ⟨y, .inr h2, h3⟩
    ·have : y = p := h3
     omega
  have hin : p ≤ q := by
   rcases he with he | he
   ·omega
   ·have := ent_in a _ k q he
    omega
  have h : sw ok (stE a p p (p + 1) k) (sw ok [(p, t, -1)] B) q := by
   rcases h with h | ⟨h, -⟩
   ·exact h
   ·have : q = s := h
    omega
  rcases he with he | he
  ·subst he
   exact hl h
  ·rcases iha p p _ k _ q (by omega) (by omega) he h with ⟨y, h1, h2⟩ | ⟨h1, h2⟩
   ·have hy := ent_in a _ k y h1
    rcases h2 with h2 | ⟨h2, -⟩
    ·exact .inl ⟨y, .inr h1, h2⟩
    ·have : y = p := h2
     omega
   ·exact hl h2
def EC (ok : Int → Prop) : RE → Nat → Nat → (Nat → Prop) → Prop
 | .alt a b, p, k, B => EC ok a p k B ∧ EC ok b (p + npl a) (k + nts a) B
 | .seq a b, p, k, B => EC ok a (p + 1) k B ∧ EC ok b (p + 1 + npl a) (k + nts a) B
 | .many a, p, k, B => EC ok a (p + 1) k B ∧ ∀ q, ent ok a (p + 1) k q → B q → B p
 | _, _, _, _ => True
theorem ec_congr {ok : Int → Prop} : ∀ (x : RE) (p k : Nat) (B B' : Nat → Prop), (∀ q, p ≤ q → q < p + npl x → (B q ↔ B' q)) → EC ok x p k B → EC ok x p k B' := by
 intro x
 induction x with
 | no => intro p k B B' _ _; exact trivial
 | step => intro p k B B' _ _; exact trivial
 | test x => intro p k B B' _ _; exact trivial
 | alt a b iha ihb =>
  intro p k B B' hq h
  exact ⟨iha p k B B' (fun q h1 h2 => hq q (by omega) (by simp only [npl]; omega)) h.1, ihb _ _ B B' (fun q h1 h2 => hq q (by omega) (by simp only [npl]; omega)) h.2⟩
 | seq a b iha ihb =>
  intro p k B B' hq h
  exact ⟨iha _ k B B' (fun q h1 h2 => hq q (by omega) (by simp only [npl]; omega)) h.1, ihb _ _ B B' (fun q h1 h2 => hq q (by omega) (by simp only [npl]; omega)) h.2⟩
 | many a iha =>
  intro p k B B' hq h
  refine ⟨iha _ k B B' (fun q h1 h2 => hq q (by omega) (by simp only [npl]; omega)) h.1, fun q he hb => ?_⟩
  have hy := ent_in a _ k q he
  exact (hq p (by omega) (by simp only [npl]; omega)).1 (h.2 q he ((hq q (by omega) (by simp only [npl]; omega)).2 hb))
theorem ec_round {ok : Int → Prop} (hok : ok (-1)) : ∀ (x : RE) (s t p k : Nat) (B : Nat → Prop), s < p → t < p → EC ok x p k (sw ok (stE x s t p k) B) := by
 intro x
 induction x with
 | no => intro s t p k B _ _; exact trivial
 | step => intro s t p k B _ _; exact trivial
 | test x => intro s t p k B _ _; exact trivial
 | alt a b iha ihb =>
  intro s t p k B hs ht
  unfold stE
  rw [sw_append]
  refine ⟨iha s t p k _ hs ht, ?_⟩
  exact ec_congr b _ _ _ _ (fun q h1 h2 => (st_keep a s t p k _ (by omega) (by omega)).symm) (ihb s t _ _ B (by omega) (by omega))
 | seq a b iha ihb =>
  intro s t p k B hs ht
  unfold stE
  rw [sw_append]
  refine ⟨iha s p _ k _ (by omega) (by omega), ?_⟩
  exact ec_congr b _ _ _ _ (fun q h1 h2 => (st_keep a s p _ k _ (by omega) (by omega)).symm) (ihb p t _ _ B (by omega) (by omega))
 | many a iha =>
  intro s t p k B hs ht
  unfold stE
  rw [sw_cons, sw_append]
  have hk : ∀ q, q ≠ s → (sw ok (stE a p p (p + 1) k) (sw ok [(p, t, -1)] B) q ↔ sw1 ok (s, p, -1) (sw ok (stE a p p (p + 1) k) (sw ok [(p, t, -1)] B)) q) := fun q hq => by
   constructor
   ·exact fun h => .inl h
   ·rintro (h | ⟨h, -⟩)
    ·exact h
    ·exact absurd h hq
  refine ⟨ec_congr a _ _ _ _ (fun q h1 h2 => hk q (by omega)) (iha p p _ k _ (by omega) (by omega)), fun q he hb => ?_⟩
  have hy := ent_in a _ k q he
  refine (hk p (by omega)).1 ?_
  rcases sw_enter a p p _ k _ q (by omega) (by omega) he ((hk q (by omega)).2 hb) with ⟨y, h1, h2⟩ | ⟨-, h⟩
  ·exact sw_least hok a p p _ k _ (.inr ⟨y, h1, h2⟩)
  ·exact h
theorem closed_round {ok : Int → Prop} (hok : ok (-1)) : ∀ (x : RE) (s t p k : Nat) (B : Nat → Prop), s < p → t < p → EC ok x p k B → (sw ok (stE x s t p k) B t → B t) →
  ∀ e ∈ stE x s t p k, ok e.2.2 → sw ok (stE x s t p k) B e.2.1 → sw ok (stE x s t p k) B e.1 := by
 intro x
 induction x with
 | no => intro s t p k B _ _ _ _ e he; cases he
 | step => intro s t p k B _ _ _ _ e he; cases he
 | test x =>
  intro s t p k B hs ht _ hst e he ho h
  obtain rfl := List.mem_singleton.1 he
  exact .inr ⟨rfl, ho, hst h⟩
 | alt a b iha ihb =>
  intro s t p k B hs ht hec hst e he ho h
  unfold stE at he h hst ⊢
  rw [sw_append] at h hst ⊢
  obtain ⟨W, hW⟩ : ∃ W, sw ok (stE b s t (p + npl a) (k + nts a)) B = W := ⟨_, rfl⟩
  have hbW : ∀ q, B q → W q := fun q h => by rw [← hW]; exact sw_ext _ h
  have hkb : ∀ q, q ≠ s → ¬ (p + npl a ≤ q ∧ q < p + npl a + npl b) → (W q ↔ B q) := fun q h1 h2 => by rw [← hW]; exact st_keep b s t _ _ B h1 h2
  have hmb := ihb s t _ _ B (by omega) (by omega) hec.2
  rw [hW] at h hst hmb ⊢
  have hka : ∀ q, q ≠ s → ¬ (p ≤ q ∧ q < p + npl a) → (sw ok (stE a s t p k) W q ↔ W q) := fun q h1 h2 => st_keep a s t p k W h1 h2
  rcases List.mem_append.1 he with he | he
  ·refine iha s t p k W hs ht (ec_congr a _ _ _ _ (fun q h1 h2 => (hkb q (by omega) (by omega)).symm) hec.1) (fun h => hbW t (hst h)) e he ho h
  ·obtain ⟨f1, f2⟩ := st_from b _ _ _ _ e he
   refine sw_ext _ (hmb (fun h => hst (sw_ext _ h)) e he ho ?_)
   rcases f2 with f2 | f2
   ·rw [f2] at h ⊢
    exact hbW _ (hst h)
   ·exact (hka _ (by omega) (by omega)).1 h
 | seq a b iha ihb =>
  intro s t p k B hs ht hec hst e he ho h
  unfold stE at he h hst ⊢
  rw [sw_append] at h hst ⊢
  obtain ⟨W, hW⟩ : ∃ W, sw ok (stE b p t (p + 1 + npl a) (k + nts a)) B = W := ⟨_, rfl⟩
  have hbW : ∀ q, B q → W q := fun q h => by rw [← hW]; exact sw_ext _ h
  have hkb : ∀ q, q ≠ p → ¬ (p + 1 + npl a ≤ q ∧ q < p + 1 + npl a + npl b) → (W q ↔ B q) := fun q h1 h2 => by rw [← hW]; exact st_keep b p t _ _ B h1 h2
  have hmb := ihb p t _ _ B (by omega) (by omega) hec.2
  rw [hW] at h hst hmb ⊢
  have hka : ∀ q, q ≠ s → ¬ (p + 1 ≤ q ∧ q < p + 1 + npl a) → (sw ok (stE a s p (p + 1) k) W q ↔ W q) := fun q h1 h2 => st_keep a s p (p + 1) k W h1 h2
  rcases List.mem_append.1 he with he | he
  ·refine iha s p (p + 1) k W (by omega) (by omega) (ec_congr a _ _ _ _ (fun q h1 h2 => (hkb q (by omega) (by omega)).symm) hec.1) (fun h => (hka p (by omega) (by omega)).1 h) e he ho h
  ·obtain ⟨f1, f2⟩ := st_from b _ _ _ _ e he
   refine sw_ext _ (hmb (fun h => hst (sw_ext _ h)) e he ho ?_)
   rcases f2 with f2 | f2
   ·rw [f2] at h ⊢
    exact hbW _ (hst h)
   ·exact (hka _ (by omega) (by omega)).1 h
 | many a iha =>
  intro s t p k B hs ht hec hst e he ho h
  unfold stE at he h hst ⊢
  rw [sw_cons, sw_append] at h hst ⊢
  obtain ⟨B1, hB1⟩ : ∃ B1, sw ok [(p, t, -1)] B = B1 := ⟨_, rfl⟩
  obtain ⟨B2, hB2⟩ : ∃ B2, sw ok (stE a p p (p + 1) k) B1 = B2 := ⟨_, rfl⟩
  have e1 : ∀ q, B q → B1 q := fun q h => by rw [← hB1]; exact sw_ext _ h
  have e2 : ∀ q, B1 q → B2 q := fun q h => by rw [← hB2]; exact sw_ext _ h
  have k1 : ∀ q, q ≠ p → (B1 q ↔ B q) := fun q hq => by
   rw [← hB1]
   exact sw_keep _ (fun e he hc => hq (by rw [← hc]; obtain rfl := List.mem_singleton.1 he; rfl))
  have k2 : ∀ q, q ≠ p → ¬ (p + 1 ≤ q ∧ q < p + 1 + npl a) → (B2 q ↔ B1 q) := fun q h1 h2 => by rw [← hB2]; exact st_keep a p p _ _ B1 h1 h2
  have kp : B2 p → B1 p := fun h => by
   rw [← hB2] at h
   rcases sw_most a p p _ k B1 (by omega) (by omega) h with h | ⟨-, h⟩ | ⟨q, h1, h2⟩
   ·exact h
   ·exact h
   ·have hq := ent_in a _ k q h1
    exact e1 _ (hec.2 q h1 ((k1 q (by omega)).1 h2))
  have hc := iha p p (p + 1) k B1 (by omega) (by omega) (ec_congr a _ _ _ _ (fun q h1 h2 => (k1 q (by omega)).symm) hec.1) (by rw [hB2]; exact kp)
  rw [hB1, hB2] at h hst ⊢
  rw [hB2] at hc
  have bt : B2 t → B1 p := fun h => by
   have hb := hst (.inl h)
   rw [← hB1]
   exact .inr ⟨rfl, hok, hb⟩
  have k3 : ∀ q, q ≠ s → (sw1 ok (s, p, -1) B2 q → B2 q) := fun q hq h => by
   rcases h with h | ⟨h, -⟩
   ·exact h
   ·exact absurd h hq
  rcases List.mem_cons.1 he with rfl | he
  ·exact .inr ⟨rfl, hok, k3 p (by omega) h⟩
  ·rcases List.mem_append.1 he with he | he
   ·obtain ⟨f1, f2⟩ := st_from a _ _ _ _ e he
    exact .inl (hc e he ho (k3 _ (by omega) h))
   ·obtain rfl := List.mem_singleton.1 he
    refine .inl (e2 _ ?_)
    rw [← hB1]
    exact .inr ⟨rfl, hok, hst h⟩
theorem two_rounds {ok : Int → Prop} (hok : ok (-1)) (x : RE) (B : Nat → Prop) : ∀ e ∈ stE x 0 1 2 0, ok e.2.2 → sw ok (stE x 0 1 2 0) (sw ok (stE x 0 1 2 0) B) e.2.1 → sw ok (stE x 0 1 2 0) (sw ok (stE x 0 1 2 0) B) e.1 :=
 closed_round hok x 0 1 2 0 _ (by omega) (by omega) (ec_round hok x 0 1 2 0 B (by omega) (by omega)) (fun h => (st_keep x 0 1 2 0 _ (by omega) (by omega)).1 h)
end Go.Proofs.YtdbgaccnejffpaaGreat.Paths

namespace Go.Proofs.YtdbgaccnejffpaaGreat.Paths
def wayR (ps : Nat → Nat → Prop) (n : Nat) : RE → Nat → Nat → Nat → Prop
 | .step, _, i, j => j = i + 1 ∧ j < n
 | .test _, k, i, j => j = i ∧ i < n ∧ ps i k
 | .alt a b, k, i, j => wayR ps n a k i j ∨ wayR ps n b (k + nts a) i j
 | .seq a b, k, i, j => ∃ m, wayR ps n a k i m ∧ wayR ps n b (k + nts a) m j
 | .many a, k, i, j => i < n ∧ Chain (wayR ps n a k) i j
 | .no, _, _, _ => False
theorem chain_on {n : Nat} {R : Nat → Nat → Prop} (hR : On n R) {i j : Nat} (h : Chain R i j) (hi : i < n) : j < n := h.elim fun _ h => chainN_on hR h hi
theorem wayR_on (ps : Nat → Nat → Prop) (n : Nat) : ∀ (x : RE) (k : Nat), On n (wayR ps n x k) := by
 intro x
 induction x with
 | no => intro k i j h; exact h.elim
 | step => intro k i j h; exact ⟨by have := h.1; have := h.2; omega, h.2⟩
 | test x => intro k i j h; exact ⟨h.2.1, by have := h.1; have := h.2.1; omega⟩
 | alt a b iha ihb => intro k i j h; exact h.elim (iha k i j) (ihb _ i j)
 | seq a b iha ihb => intro k i j h; exact h.elim fun m h => ⟨(iha k i m h.1).1, (ihb _ m j h.2).2⟩
 | many a iha => intro k i j h; exact ⟨h.1, chain_on (iha k) h.2 h.1⟩
def okI (ps : Nat → Nat → Prop) (i : Nat) (t : Int) : Prop := t = -1 ∨ ∃ k : Nat, t = (k : Int) ∧ ps i k
theorem okI_none (ps : Nat → Nat → Prop) (i : Nat) : okI ps i (-1) := .inl rfl
theorem okI_test (ps : Nat → Nat → Prop) (i k : Nat) : okI ps i (k : Int) ↔ ps i k := by
 constructor
 ·rintro (h | ⟨q, h, hp⟩)
  ·omega
  ·obtain rfl : k = q := by omega
   exact hp
 ·exact fun h => .inr ⟨k, rfl, h⟩
def Abides (ps : Nat → Nat → Prop) (n : Nat) (st sp : List Ed) (V : Nat → Nat → Prop) : Prop :=
 (∀ e ∈ st, ∀ i, i < n → okI ps i e.2.2 → V e.2.1 i → V e.1 i) ∧ ∀ e ∈ sp, ∀ i, i + 1 < n → V e.2.1 (i + 1) → V e.1 i
theorem Abides.left {ps : Nat → Nat → Prop} {n : Nat} {s1 s2 p1 p2 : List Ed} {V : Nat → Nat → Prop} (h : Abides ps n (s1 ++ s2) (p1 ++ p2) V) : Abides ps n s1 p1 V :=
 ⟨fun e he => h.1 e (List.mem_append_left _ he), fun e he => h.2 e (List.mem_append_left _ he)⟩
theorem Abides.right {ps : Nat → Nat → Prop} {n : Nat} {s1 s2 p1 p2 : List Ed} {V : Nat → Nat → Prop} (h : Abides ps n (s1 ++ s2) (p1 ++ p2) V) : Abides ps n s2 p2 V :=
 ⟨fun e he => h.1 e (List.mem_append_right _ he), fun e he => h.2 e (List.mem_append_right _ he)⟩
theorem Abides.both {ps : Nat → Nat → Prop} {n : Nat} {s1 s2 p1 p2 : List Ed} {V : Nat → Nat → Prop} (h : Abides ps n s1 p1 V) (h' : Abides ps n s2 p2 V) : Abides ps n (s1 ++ s2) (p1 ++ p2) V :=
 ⟨fun e he => (List.mem_append.1 he).elim (h.1 e) (h'.1 e), fun e he => (List.mem_append.1 he).elim (h.2 e) (h'.2 e)⟩
theorem abides_way {ps : Nat → Nat → Prop} {n : Nat} {V : Nat → Nat → Prop} : ∀ (x : RE) (s t p k : Nat), Abides ps n (stE x s t p k) (spE x s t p) V → ∀ i j, wayR ps n x k i j → V t j → V s i := by
 intro x
 induction x with
 | no => intro s t p k _ i j h; exact h.elim
 | step =>
  rintro s t p k h i j ⟨rfl, hj⟩ hv
  exact h.2 _ (List.mem_singleton.2 rfl) i hj hv
 | test x =>
  rintro s t p k h i j ⟨rfl, hj, hp⟩ hv
  exact h.1 _ (List.mem_singleton.2 rfl) j hj ((okI_test ps j k).2 hp) hv
 | alt a b iha ihb =>
  rintro s t p k h i j (hw | hw) hv
  ·exact iha s t p k h.left i j hw hv
  ·exact ihb s t _ _ h.right i j hw hv
 | seq a b iha ihb =>
  rintro s t p k h i j ⟨m, h1, h2⟩ hv
  exact iha s p _ k h.left i m h1 (ihb p t _ _ h.right m j h2 hv)
 | many a iha =>
  rintro s t p k h i j ⟨hi, c, hc⟩ hv
  have h0 : Abides ps n (stE a p p (p + 1) k) (spE a p p (p + 1)) V := ⟨fun e he => h.1 e (List.mem_cons_of_mem _ (List.mem_append_left _ he)), h.2⟩
  have hj := chainN_on (wayR_on ps n a k) hc hi
  have hp : V p j := h.1 (p, t, -1) (List.mem_cons_of_mem _ (List.mem_append_right _ (List.mem_singleton.2 rfl))) j hj (okI_none ps j) hv
  refine h.1 (s, p, -1) List.mem_cons_self i hi (okI_none ps i) (show V p i from ?_)
  clear hi hv
  induction c generalizing i with
  | zero =>
   have hc : i = j := hc
   rw [hc]
   exact hp
  | succ c ih =>
   rcases hc with hc | ⟨q, h1, h2⟩
   ·rw [hc]
    exact hp
   ·exact iha p p _ k h0 i q h1 (ih q h2)
theorem sp_from : ∀ (x : RE) (s t p : Nat), ∀ e ∈ spE x s t p, (e.1 = s ∨ (p ≤ e.1 ∧ e.1 < p + npl x)) ∧ (e.2.1 = t ∨ (p ≤ e.2.1 ∧ e.2.1 < p + npl x)) := by
 intro x
 induction x with
 | no => intro s t p e he; cases he
 | test x => intro s t p e he; cases he
 | step =>
  intro s t p e he
  obtain rfl := List.mem_singleton.1 he
  exact ⟨.inl rfl, .inl rfl⟩
 | alt a b iha ihb =>
  intro s t p e he
  rcases List.mem_append.1 he with he | he
  ·have := iha _ _ _ e he
   simp only [npl]; omega
  ·have := ihb _ _ _ e he
   simp only [npl]; omega
 | seq a b iha ihb =>
  intro s t p e he
  rcases List.mem_append.1 he with he | he
  ·have := iha _ _ _ e he
   simp only [npl]; omega
  ·have := ihb _ _ _ e he
   simp only [npl]; omega
 | many a iha =>
  intro s t p e he
  have := iha _ _ _ e he
  simp only [npl]; omega
theorem Abides.congr {ps : Nat → Nat → Prop} {n : Nat} {x : RE} {s t p k : Nat} {V V' : Nat → Nat → Prop} (h : Abides ps n (stE x s t p k) (spE x s t p) V) (hs : ∀ i, V' s i ↔ V s i) (ht : ∀ i, V' t i ↔ V t i)
  (hp : ∀ q, p ≤ q → q < p + npl x → ∀ i, V' q i ↔ V q i) : Abides ps n (stE x s t p k) (spE x s t p) V' := by
 have one : ∀ q i, (q = s ∨ q = t ∨ (p ≤ q ∧ q < p + npl x)) → (V' q i ↔ V q i) := fun q i hq => by
  rcases hq with rfl | rfl | hq
  ·exact hs i
  ·exact ht i
  ·exact hp q hq.1 hq.2 i
 refine ⟨fun e he i hi ho hv => ?_, fun e he i hi hv => ?_⟩
 ·obtain ⟨f1, f2⟩ := st_from x s t p k e he
  exact (one _ i (by omega)).2 (h.1 e he i hi ho ((one _ i (by omega)).1 hv))
 ·obtain ⟨f1, f2⟩ := sp_from x s t p e he
  exact (one _ i (by omega)).2 (h.2 e he i hi ((one _ (i + 1) (by omega)).1 hv))
def updV (V : Nat → Nat → Prop) (p : Nat) (f : Nat → Prop) : Nat → Nat → Prop := fun q i => if q = p then f i else V q i
theorem updV_at (V : Nat → Nat → Prop) (p : Nat) (f : Nat → Prop) (i : Nat) : updV V p f p i ↔ f i := by unfold updV; rw [if_pos rfl]
theorem updV_other (V : Nat → Nat → Prop) {p q : Nat} (f : Nat → Prop) (i : Nat) (h : q ≠ p) : updV V p f q i ↔ V q i := by unfold updV; rw [if_neg h]
theorem way_abides {ps : Nat → Nat → Prop} {n : Nat} : ∀ (x : RE) (s t p k : Nat) (V : Nat → Nat → Prop), s < p → t < p → (∀ i j, wayR ps n x k i j → V t j → V s i) →
  ∃ V' : Nat → Nat → Prop, (∀ q, ¬ (p ≤ q ∧ q < p + npl x) → ∀ i, V' q i ↔ V q i) ∧ Abides ps n (stE x s t p k) (spE x s t p) V' := by
 intro x
 induction x with
 | no => intro s t p k V _ _ _; exact ⟨V, fun _ _ _ => Iff.rfl, fun e he => (by cases he), fun e he => (by cases he)⟩
 | step =>
  intro s t p k V _ _ h
  refine ⟨V, fun _ _ _ => Iff.rfl, fun e he => (by cases he), fun e he i hi hv => ?_⟩
  obtain rfl := List.mem_singleton.1 he
  exact h i (i + 1) ⟨rfl, hi⟩ hv
 | test x =>
  intro s t p k V _ _ h
  refine ⟨V, fun _ _ _ => Iff.rfl, fun e he i hi ho hv => ?_, fun e he => (by cases he)⟩
  obtain rfl := List.mem_singleton.1 he
  exact h i i ⟨rfl, hi, (okI_test ps i k).1 ho⟩ hv
 | alt a b iha ihb =>
  intro s t p k V hs ht h
  obtain ⟨V1, k1, a1⟩ := iha s t p k V hs ht (fun i j hw => h i j (.inl hw))
  obtain ⟨V2, k2, a2⟩ := ihb s t (p + npl a) (k + nts a) V1 (by omega) (by omega) (fun i j hw hv => (k1 s (by omega) i).2 (h i j (.inr hw) ((k1 t (by omega) j).1 hv)))
  refine ⟨V2, fun q hq i => (k2 q (by simp only [npl] at hq; omega) i).trans (k1 q (by simp only [npl] at hq; omega) i), ?_⟩
  exact Abides.both (a1.congr (k2 s (by omega)) (k2 t (by omega)) (fun q h1 h2 => k2 q (by omega))) a2
 | seq a b iha ihb =>
  intro s t p k V hs ht h
  obtain ⟨V0, hV0⟩ : ∃ V0, updV V p (fun i => ∃ m, wayR ps n b (k + nts a) i m ∧ V t m) = V0 := ⟨_, rfl⟩
  have e0 : ∀ i, V0 p i ↔ ∃ m, wayR ps n b (k + nts a) i m ∧ V t m := fun i => by rw [← hV0]; exact updV_at _ _ _ i
  have e1 : ∀ q, q ≠ p → ∀ i, V0 q i ↔ V q i := fun q hq i => by rw [← hV0]; exact updV_other _ _ i hq
  obtain ⟨V1, k1, a1⟩ := iha s p (p + 1) k V0 (by omega) (by omega) (fun i j hw hv => by
   obtain ⟨m, h1, h2⟩ := (e0 j).1 hv
   exact (e1 s (by omega) i).2 (h i m ⟨j, hw, h1⟩ h2))
  obtain ⟨V2, k2, a2⟩ := ihb p t (p + 1 + npl a) (k + nts a) V1 (by omega) (by omega) (fun i j hw hv => by
   refine (k1 p (by omega) i).2 ((e0 i).2 ⟨j, hw, ?_⟩)
   exact (e1 t (by omega) j).1 ((k1 t (by omega) j).1 hv))
  refine ⟨V2, fun q hq i => ?_, ?_⟩
  ·simp only [npl] at hq
   exact ((k2 q (by omega) i).trans (k1 q (by omega) i)).trans (e1 q (by omega) i)
  ·exact Abides.both (a1.congr (k2 s (by omega)) (k2 p (by omega)) (fun q h1 h2 => k2 q (by omega))) a2
 | many a iha =>
  intro s t p k V hs ht h
  obtain ⟨V0, hV0⟩ : ∃ V0, updV V p (fun i => ∃ m, wayR ps n (.many a) k i m ∧ V t m) = V0 := ⟨_, rfl⟩
  have e0 : ∀ i, V0 p i ↔ ∃ m, wayR ps n (.many a) k i m ∧ V t m := fun i => by rw [← hV0]; exact updV_at _ _ _ i
  have e1 : ∀ q, q ≠ p → ∀ i, V0 q i ↔ V q i := fun q hq i => by rw [← hV0]; exact updV_other _ _ i hq
  obtain ⟨V1, k1, a1⟩ := iha p p (p + 1) k V0 (by omega) (by omega) (fun i j hw hv => by
   obtain ⟨m, ⟨-, h1⟩, h2⟩ := (e0 j).1 hv
   exact (e0 i).2 ⟨m, ⟨(wayR_on ps n a k i j hw).1, chain_trans (chain_one hw) h1⟩, h2⟩)
  refine ⟨V1, fun q hq i => ?_, ⟨fun e he i hi ho hv => ?_, a1.2⟩⟩
  ·simp only [npl] at hq
   exact (k1 q (by omega) i).trans (e1 q (by omega) i)
  ·rcases List.mem_cons.1 he with rfl | he
   ·have hv : V1 p i := hv
    obtain ⟨m, h1, h2⟩ := (e0 i).1 ((k1 p (by omega) i).1 hv)
    exact (k1 s (by omega) i).2 ((e1 s (by omega) i).2 (h i m h1 h2))
   ·rcases List.mem_append.1 he with he | he
    ·exact a1.1 e he i hi ho hv
    ·obtain rfl := List.mem_singleton.1 he
     have hv : V1 t i := hv
     exact (k1 p (by omega) i).2 ((e0 i).2 ⟨i, ⟨hi, chain_refl _ i⟩, (e1 t (by omega) i).1 ((k1 t (by omega) i).1 hv)⟩)
def baseB (sp : List Ed) (L : Nat → Prop) (g : Prop) : Nat → Prop := fun p => (∃ e ∈ sp, e.1 = p ∧ L e.2.1) ∨ (p = 1 ∧ g)
def atB (ps : Nat → Nat → Prop) (n j : Nat) (x : RE) : Nat → Nat → Prop
 | 0 => fun _ => False
 | d + 1 => sw (okI ps (n - 1 - d)) (stE x 0 1 2 0) (sw (okI ps (n - 1 - d)) (stE x 0 1 2 0) (baseB (spE x 0 1 2) (atB ps n j x d) (n - 1 - d = j)))
theorem atB_way (ps : Nat → Nat → Prop) (n j : Nat) (x : RE) (i : Nat) (hi : i < n) (hj : j < n) : atB ps n j x (n - i) 0 ↔ wayR ps n x 0 i j := by
 constructor
 ·obtain ⟨V, kV, aV⟩ := way_abides (ps := ps) (n := n) x 0 1 2 0 (fun p i => if p = 1 then i = j else wayR ps n x 0 i j) (by omega) (by omega) (fun i m hw hm => by
   have hm : m = j := by simpa using hm
   rw [if_neg (by omega)]
   exact hm ▸ hw)
  have hs : ∀ d, d ≤ n → ∀ q, atB ps n j x d q → V q (n - d) := by
   intro d
   induction d with
   | zero => intro _ q h; exact h.elim
   | succ d ih =>
    intro hd q h
    have hst : ∀ e ∈ stE x 0 1 2 0, okI ps (n - 1 - d) e.2.2 → V e.2.1 (n - 1 - d) → V e.1 (n - 1 - d) := fun e he ho hv => aV.1 e he _ (by omega) ho hv
    have e1 : n - (d + 1) = n - 1 - d := by omega
    rw [e1]
    refine sw_within (V := fun q => V q (n - 1 - d)) _ (sw_within (V := fun q => V q (n - 1 - d)) _ ?_ hst) hst q h
    rintro q (⟨e, he, rfl, hl⟩ | ⟨rfl, hg⟩)
    ·cases d with
     | zero => exact hl.elim
     | succ d =>
      have hl := ih (by omega) _ hl
      refine aV.2 e he _ (by omega) ?_
      rw [show n - 1 - (d + 1) + 1 = n - (d + 1) by omega]
      exact hl
    ·refine (kV 1 (by omega) _).2 ?_
     rw [if_pos rfl]
     exact hg
  intro h
  have h := hs (n - i) (by omega) 0 h
  rw [show n - (n - i) = i by omega] at h
  have h := (kV 0 (by omega) i).1 h
  rwa [if_neg (by omega)] at h
 ·intro hw
  refine abides_way (V := fun q i => atB ps n j x (n - i) q) x 0 1 2 0 ⟨fun e he i hi ho hv => ?_, fun e he i hi hv => ?_⟩ i j hw ?_
  ·have e1 : n - i = (n - 1 - i) + 1 := by omega
   simp only [e1] at hv ⊢
   unfold atB at hv ⊢
   rw [show n - 1 - (n - 1 - i) = i by omega] at hv ⊢
   exact two_rounds (okI_none ps i) x _ e he ho hv
  ·have e1 : n - i = (n - (i + 1)) + 1 := by omega
   simp only [e1]
   unfold atB
   exact sw_ext _ (sw_ext _ (.inl ⟨e, he, rfl, hv⟩))
  ·show atB ps n j x (n - j) 1
   have e1 : n - j = (n - 1 - j) + 1 := by omega
   rw [e1]
   unfold atB
   exact sw_ext _ (sw_ext _ (.inr ⟨rfl, by omega⟩))
end Go.Proofs.YtdbgaccnejffpaaGreat.Paths
