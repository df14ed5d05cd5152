/-
  A regular expression as places with edges between them: two rounds over the edges within a point, from the last one to the first, find all (stage 14). By an AI agent.
-/
import Derived.Test.YtdbgaccnejffpaaGreatDoorGSatDual2
namespace Go.Proofs.YtdbgaccnejffpaaGreatDoor.Paths
inductive RE where
 | no
 | step
 | test (x : Nat)
 | alt (a b : RE)
 | seq (a b : RE)
 | many (a : RE)
def npl : RE → Nat
 | .alt a b => npl a + npl b
 | .seq a b => 1 + (npl a + npl b)
 | .many a => 1 + npl a
 | _ => 0
def nts : RE → Nat
 | .test _ => 1
 | .alt a b => nts a + nts b
 | .seq a b => nts a + nts b
 | .many a => nts a
 | _ => 0
abbrev Ed := Nat × Nat × Int
def stE : RE → Nat → Nat → Nat → Nat → List Ed
 | .test _, s, t, _, k => [(s, t, (k : Int))]
 | .alt a b, s, t, p, k => stE a s t p k ++ stE b s t (p + npl a) (k + nts a)
 | .seq a b, s, t, p, k => stE a s p (p + 1) k ++ stE b p t (p + 1 + npl a) (k + nts a)
 | .many a, s, t, p, k => (s, p, -1) :: (stE a p p (p + 1) k ++ [(p, t, -1)])
 | _, _, _, _, _ => []
def spE : RE → Nat → Nat → Nat → List Ed
 | .step, s, t, _ => [(s, t, -1)]
 | .alt a b, s, t, p => spE a s t p ++ spE b s t (p + npl a)
 | .seq a b, s, t, p => spE a s p (p + 1) ++ spE b p t (p + 1 + npl a)
 | .many a, _, _, p => spE a p p (p + 1)
 | _, _, _, _ => []
def sw1 (ok : Int → Prop) (e : Ed) (B : Nat → Prop) : Nat → Prop := fun p => B p ∨ (p = e.1 ∧ ok e.2.2 ∧ B e.2.1)
def sw (ok : Int → Prop) (es : List Ed) (B : Nat → Prop) : Nat → Prop := es.foldr (sw1 ok) B
theorem sw_cons (ok : Int → Prop) (e : Ed) (es : List Ed) (B : Nat → Prop) : sw ok (e :: es) B = sw1 ok e (sw ok es B) := rfl
theorem sw_append (ok : Int → Prop) (a b : List Ed) (B : Nat → Prop) : sw ok (a ++ b) B = sw ok a (sw ok b B) := List.foldr_append
theorem sw_ext {ok : Int → Prop} (es : List Ed) {B : Nat → Prop} {q : Nat} (h : B q) : sw ok es B q := by
 induction es with
 | nil => exact h
 | cons e es ih => exact .inl ih
theorem sw_keep {ok : Int → Prop} (es : List Ed) {B : Nat → Prop} {q : Nat} (hq : ∀ e ∈ es, e.1 ≠ q) : sw ok es B q ↔ B q := by
 induction es with
 | nil => exact Iff.rfl
 | cons e es ih =>
  rw [sw_cons]
  constructor
  ·rintro (h | ⟨h, -⟩)
   ·exact (ih (fun e he => hq e (List.mem_cons_of_mem _ he))).1 h
   ·exact absurd h.symm (hq e List.mem_cons_self)
  ·intro h
   exact .inl (sw_ext es h)
theorem sw_within {ok : Int → Prop} (es : List Ed) {B V : Nat → Prop} (hB : ∀ q, B q → V q) (hV : ∀ e ∈ es, ok e.2.2 → V e.2.1 → V e.1) : ∀ q, sw ok es B q → V q := by
 induction es with
 | nil => exact hB
 | cons e es ih =>
  intro q h
  have go := ih (fun e he => hV e (List.mem_cons_of_mem _ he))
  rcases h with h | ⟨rfl, h1, h2⟩
  ·exact go q h
  ·exact hV e List.mem_cons_self h1 (go _ h2)
theorem st_from : ∀ (x : RE) (s t p k : Nat), ∀ e ∈ stE x s t p k, (e.1 = s ∨ (p ≤ e.1 ∧ e.1 < p + npl x)) ∧ (e.2.1 = t ∨ (p ≤ e.2.1 ∧ e.2.1 < p + npl x)) := by
 intro x
 induction x with
 | no => intro s t p k e he; cases he
 | step => intro s t p k e he; cases he
 | test x =>
  intro s t p k e he
  obtain rfl := List.mem_singleton.1 he
  exact ⟨.inl rfl, .inl rfl⟩
 | alt a b iha ihb =>
  intro s t p k e he
  rcases List.mem_append.1 he with he | he
  ·have := iha _ _ _ _ e he
   simp only [npl]; omega
  ·have := ihb _ _ _ _ e he
   simp only [npl]; omega
 | seq a b iha ihb =>
  intro s t p k e he
  rcases List.mem_append.1 he with he | he
  ·have := iha _ _ _ _ e he
   simp only [npl]; omega
  ·have := ihb _ _ _ _ e he
   simp only [npl]; omega
 | many a iha =>
  intro s t p k e he
  rcases List.mem_cons.1 he with rfl | he
  ·exact ⟨.inl rfl, .inr ⟨Nat.le_refl p, show p < p + (1 + npl a) by omega⟩⟩
  ·rcases List.mem_append.1 he with he | he
   ·have := iha _ _ _ _ e he
    simp only [npl]; omega
   ·obtain rfl := List.mem_singleton.1 he
    exact ⟨.inr ⟨Nat.le_refl p, show p < p + (1 + npl a) by omega⟩, .inl rfl⟩
theorem st_keep {ok : Int → Prop} (x : RE) (s t p k : Nat) (B : Nat → Prop) {q : Nat} (hs : q ≠ s) (hq : ¬ (p ≤ q ∧ q < p + npl x)) : sw ok (stE x s t p k) B q ↔ B q :=
 sw_keep _ fun e he hc => by
  have := (st_from x s t p k e he).1
  omega
def thr (ok : Int → Prop) : RE → Nat → Prop
 | .test _, k => ok k
 | .alt a b, k => thr ok a k ∨ thr ok b (k + nts a)
 | .seq a b, k => thr ok a k ∧ thr ok b (k + nts a)
 | .many _, _ => True
 | _, _ => False
def ent (ok : Int → Prop) : RE → Nat → Nat → Nat → Prop
 | .alt a b, p, k, q => ent ok a p k q ∨ ent ok b (p + npl a) (k + nts a) q
 | .seq a b, p, k, q => ent ok a (p + 1) k q ∨ (thr ok a k ∧ (q = p ∨ ent ok b (p + 1 + npl a) (k + nts a) q))
 | .many a, p, k, q => q = p ∨ ent ok a (p + 1) k q
 | _, _, _, _ => False
theorem ent_in {ok : Int → Prop} : ∀ (x : RE) (p k q : Nat), ent ok x p k q → p ≤ q ∧ q < p + npl x := by
 intro x
 induction x with
 | no => intro p k q h; exact h.elim
 | step => intro p k q h; exact h.elim
 | test x => intro p k q h; exact h.elim
 | alt a b iha ihb =>
  intro p k q h
  rcases h with h | h
  ·have := iha _ _ _ h
   simp only [npl]; omega
  ·have := ihb _ _ _ h
   simp only [npl]; omega
 | seq a b iha ihb =>
  intro p k q h
  rcases h with h | ⟨-, h | h⟩
  ·have := iha _ _ _ h
   simp only [npl]; omega
  ·simp only [npl]; omega
  ·have := ihb _ _ _ h
   simp only [npl]; omega
 | many a iha =>
  intro p k q h
  rcases h with h | h
  ·simp only [npl]; omega
  ·have := iha _ _ _ h
   simp only [npl]; omega
theorem sw_least {ok : Int → Prop} (hok : ok (-1)) : ∀ (x : RE) (s t p k : Nat) (B : Nat → Prop), ((thr ok x k ∧ B t) ∨ ∃ q, ent ok x p k q ∧ B q) → sw ok (stE x s t p k) B s := by
 intro x
 induction x with
 | no => intro s t p k B h; rcases h with ⟨h, -⟩ | ⟨q, h, -⟩ <;> exact h.elim
 | step => intro s t p k B h; rcases h with ⟨h, -⟩ | ⟨q, h, -⟩ <;> exact h.elim
 | test x =>
  intro s t p k B h
  rcases h with ⟨h, hb⟩ | ⟨q, h, -⟩
  ·exact .inr ⟨rfl, h, hb⟩
  ·exact h.elim
 | alt a b iha ihb =>
  intro s t p k B h
  unfold stE
  rw [sw_append]
  rcases h with ⟨h | h, hb⟩ | ⟨q, h | h, hb⟩
  ·exact iha s t p k _ (.inl ⟨h, sw_ext _ hb⟩)
  ·exact sw_ext _ (ihb s t _ _ B (.inl ⟨h, hb⟩))
  ·exact iha s t p k _ (.inr ⟨q, h, sw_ext _ hb⟩)
  ·exact sw_ext _ (ihb s t _ _ B (.inr ⟨q, h, hb⟩))
 | seq a b iha ihb =>
  intro s t p k B h
  unfold stE
  rw [sw_append]
  rcases h with ⟨⟨h1, h2⟩, hb⟩ | ⟨q, h | ⟨h1, h2 | h2⟩, hb⟩
  ·exact iha s p _ k _ (.inl ⟨h1, ihb p t _ _ B (.inl ⟨h2, hb⟩)⟩)
  ·exact iha s p _ k _ (.inr ⟨q, h, sw_ext _ hb⟩)
  ·subst h2
   exact iha s q _ k _ (.inl ⟨h1, sw_ext _ hb⟩)
  ·exact iha s p _ k _ (.inl ⟨h1, ihb p t _ _ B (.inr ⟨q, h2, hb⟩)⟩)
 | many a iha =>
  intro s t p k B h
  unfold stE
  rw [sw_cons, sw_append]
  refine .inr ⟨rfl, hok, ?_⟩
  show sw ok (stE a p p (p + 1) k) (sw ok [(p, t, -1)] B) p
  rcases h with ⟨-, hb⟩ | ⟨q, h | h, hb⟩
  ·exact sw_ext _ (.inr ⟨rfl, hok, hb⟩)
  ·subst h
   exact sw_ext _ (sw_ext _ hb)
  ·exact iha p p _ k _ (.inr ⟨q, h, sw_ext _ hb⟩)
theorem sw_most {ok : Int → Prop} : ∀ (x : RE) (s t p k : Nat) (B : Nat → Prop), s < p → t < p → sw ok (stE x s t p k) B s → B s ∨ (thr ok x k ∧ B t) ∨ ∃ q, ent ok x p k q ∧ B q := by
 intro x
 induction x with
 | no => intro s t p k B _ _ h; exact .inl h
 | step => intro s t p k B _ _ h; exact .inl h
 | test x =>
  intro s t p k B _ _ h
  rcases h with h | ⟨-, h1, h2⟩
  ·exact .inl h
  ·exact .inr (.inl ⟨h1, h2⟩)
 | alt a b iha ihb =>
  intro s t p k B hs ht h
  unfold stE at h
  rw [sw_append] at h
  have hb : sw ok (stE b s t (p + npl a) (k + nts a)) B s → B s ∨ (thr ok (.alt a b) k ∧ B t) ∨ ∃ q, ent ok (.alt a b) p k q ∧ B q := fun h => by
   rcases ihb s t _ _ B (by omega) (by omega) h with h | ⟨h1, h2⟩ | ⟨q, h1, h2⟩
   ·exact .inl h
   ·exact .inr (.inl ⟨.inr h1, h2⟩)
   ·exact .inr (.inr ⟨q, .inr h1, h2⟩)
  rcases iha s t p k _ hs ht h with h | ⟨h1, h2⟩ | ⟨q, h1, h2⟩
  ·exact hb h
  ·by_cases hst : t = s
   ·subst hst
    exact hb h2
   ·exact .inr (.inl ⟨.inl h1, (st_keep b s t _ _ B hst (by omega)).1 h2⟩)
  ·have hq := ent_in a p k q h1
   exact .inr (.inr ⟨q, .inl h1, (st_keep b s t _ _ B (by omega) (by omega)).1 h2⟩)
 | seq a b iha ihb =>
  intro s t p k B hs ht h
  unfold stE at h
  rw [sw_append] at h
  rcases iha s p (p + 1) k _ (by omega) (by omega) h with h | ⟨h1, h2⟩ | ⟨q, h1, h2⟩
  ·exact .inl ((st_keep b p t _ _ B (by omega) (by omega)).1 h)
  ·rcases ihb p t _ _ B (by omega) (by omega) h2 with h | ⟨h3, h4⟩ | ⟨q, h3, h4⟩
   ·exact .inr (.inr ⟨p, .inr ⟨h1, .inl rfl⟩, h⟩)
   ·exact .inr (.inl ⟨⟨h1, h3⟩, h4⟩)
   ·exact .inr (.inr ⟨q, .inr ⟨h1, .inr h3⟩, h4⟩)
  ·have hq := ent_in a _ k q h1
   exact .inr (.inr ⟨q, .inl h1, (st_keep b p t _ _ B (by omega) (by omega)).1 h2⟩)
 | many a iha =>
  intro s t p k B hs ht h
  unfold stE at h
  rw [sw_cons, sw_append] at h
  have hp : sw ok (stE a p p (p + 1) k) (sw ok [(p, t, -1)] B) p → B s ∨ (thr ok (.many a) k ∧ B t) ∨ ∃ q, ent ok (.many a) p k q ∧ B q := fun h => by
   have h1 : sw ok [(p, t, -1)] B p → B s ∨ (thr ok (.many a) k ∧ B t) ∨ ∃ q, ent ok (.many a) p k q ∧ B q := fun h => by
    rcases h with h | ⟨-, -, h⟩
    ·exact .inr (.inr ⟨p, .inl rfl, h⟩)
    ·exact .inr (.inl ⟨trivial, h⟩)
   rcases iha p p (p + 1) k _ (by omega) (by omega) h with h | ⟨-, h⟩ | ⟨q, h2, h3⟩
   ·exact h1 h
   ·exact h1 h
   ·have hq := ent_in a _ k q h2
    rcases h3 with h3 | ⟨h3, -⟩
    ·exact .inr (.inr ⟨q, .inr h2, h3⟩)
    ·have : q = p := h3
     omega
  rcases h with h | ⟨-, -, h⟩
  ·have h := (st_keep a p p _ _ _ (by omega) (by omega)).1 h
   rcases h with h | ⟨h, -⟩
   ·exact .inl h
   ·have : s = p := h
    omega
  ·exact hp h
theorem sw_enter {ok : Int → Prop} : ∀ (x : RE) (s t p k : Nat) (B : Nat → Prop) (q : Nat), s < p → t < p → ent ok x p k q → sw ok (stE x s t p k) B q → (∃ y, ent ok x p k y ∧ B y) ∨ (thr ok x k ∧ sw ok (stE x s t p k) B t) := by
 intro x
 induction x with
 | no => intro s t p k B q _ _ h; exact h.elim
 | step => intro s t p k B q _ _ h; exact h.elim
 | test x => intro s t p k B q _ _ h; exact h.elim
 | alt a b iha ihb =>
  intro s t p k B q hs ht he h
  unfold stE at h ⊢
  rw [sw_append] at h ⊢
  rcases he with he | he
  ·rcases iha s t p k _ q hs ht he h with ⟨y, h1, h2⟩ | ⟨h1, h2⟩
   ·have hy := ent_in a p k y h1
    exact .inl ⟨y, .inl h1, (st_keep b s t _ _ B (by omega) (by omega)).1 h2⟩
   ·exact .inr ⟨.inl h1, h2⟩
  ·have hq := ent_in b _ _ q he
   rcases ihb s t _ _ B q (by omega) (by omega) he ((st_keep a s t p k _ (by omega) (by omega)).1 h) with ⟨y, h1, h2⟩ | ⟨h1, h2⟩
   ·exact .inl ⟨y, .inr h1, h2⟩
   ·exact .inr ⟨.inr h1, sw_ext _ h2⟩
 | seq a b iha ihb =>
  intro s t p k B q hs ht he h
  unfold stE at h ⊢
  rw [sw_append] at h ⊢
  have hmid : thr ok a k → sw ok (stE b p t (p + 1 + npl a) (k + nts a)) B p → (∃ y, ent ok (.seq a b) p k y ∧ B y) ∨ (thr ok (.seq a b) k ∧ sw ok (stE a s p (p + 1) k) (sw ok (stE b p t (p + 1 + npl a) (k + nts a)) B) t) := fun h1 h2 => by
   rcases sw_most b p t _ _ B (by omega) (by omega) h2 with h | ⟨h3, h4⟩ | ⟨y, h3, h4⟩
   ·exact .inl ⟨p, .inr ⟨h1, .inl rfl⟩, h⟩
   ·exact .inr ⟨⟨h1, h3⟩, sw_ext _ (sw_ext _ h4)⟩
   ·exact .inl ⟨y, .inr ⟨h1, .inr h3⟩, h4⟩
  rcases he with he | ⟨h1, he | he⟩
  ·rcases iha s p _ k _ q (by omega) (by omega) he h with ⟨y, h1, h2⟩ | ⟨h1, h2⟩
   ·have hy := ent_in a _ k y h1
    exact .inl ⟨y, .inl h1, (st_keep b p t _ _ B (by omega) (by omega)).1 h2⟩
   ·exact hmid h1 ((st_keep a s p _ k _ (by omega) (by omega)).1 h2)
  ·subst he
   exact hmid h1 ((st_keep a s q _ k _ (by omega) (by omega)).1 h)
  ·have hq := ent_in b _ _ q he
   rcases ihb p t _ _ B q (by omega) (by omega) he ((st_keep a s p _ k _ (by omega) (by omega)).1 h) with ⟨y, h2, h3⟩ | ⟨h2, h3⟩
   ·exact .inl ⟨y, .inr ⟨h1, .inr h2⟩, h3⟩
   ·exact .inr ⟨⟨h1, h2⟩, sw_ext _ h3⟩
 | many a iha =>
  intro s t p k B q hs ht he h
  unfold stE at h ⊢
  rw [sw_cons, sw_append] at h ⊢
  have hl : sw ok (stE a p p (p + 1) k) (sw ok [(p, t, -1)] B) p → (∃ y, ent ok (.many a) p k y ∧ B y) ∨ (thr ok (.many a) k ∧ sw1 ok (s, p, -1) (sw ok (stE a p p (p + 1) k) (sw ok [(p, t, -1)] B)) t) := fun h => by
   have h1 : sw ok [(p, t, -1)] B p → (∃ y, ent ok (.many a) p k y ∧ B y) ∨ (thr ok (.many a) k ∧ sw1 ok (s, p, -1) (sw ok (stE a p p (p + 1) k) (sw ok [(p, t, -1)] B)) t) := fun h => by
    rcases h with h | ⟨-, -, h⟩
    ·exact .inl ⟨p, .inl rfl, h⟩
    ·exact .inr ⟨trivial, .inl (sw_ext _ (sw_ext _ h))⟩
   rcases sw_most a p p (p + 1) k _ (by omega) (by omega) h with h | ⟨-, h⟩ | ⟨y, h2, h3⟩
   ·exact h1 h
   ·exact h1 h
   ·have hq := ent_in a _ k y h2
    rcases h3 with h3 | ⟨h3, -⟩
    ·exact .inl ⟨y, .inr h2, h3⟩
    ·have : y = p := h3
     omega
  have hin : p ≤ q := by
   rcases he with he | he
   ·omega
   ·have := ent_in a _ k q he
    omega
  have h : sw ok (stE a p p (p + 1) k) (sw ok [(p, t, -1)] B) q := by
   rcases h with h | ⟨h, -⟩
   ·exact h
   ·have : q = s := h
    omega
  rcases he with he | he
  ·subst he
   exact hl h
  ·rcases iha p p _ k _ q (by omega) (by omega) he h with ⟨y, h1, h2⟩ | ⟨h1, h2⟩
   ·have hy := ent_in a _ k y h1
    rcases h2 with h2 | ⟨h2, -⟩
    ·exact .inl ⟨y, .inr h1, h2⟩
    ·have : y = p := h2
     omega
   ·exact hl h2
def EC (ok : Int → Prop) : RE → Nat → Nat → (Nat → Prop) → Prop
 | .alt a b, p, k, B => EC ok a p k B ∧ EC ok b (p + npl a) (k + nts a) B
 | .seq a b, p, k, B => EC ok a (p + 1) k B ∧ EC ok b (p + 1 + npl a) (k + nts a) B
 | .many a, p, k, B => EC ok a (p + 1) k B ∧ ∀ q, ent ok a (p + 1) k q → B q → B p
 | _, _, _, _ => True
theorem ec_congr {ok : Int → Prop} : ∀ (x : RE) (p k : Nat) (B B' : Nat → Prop), (∀ q, p ≤ q → q < p + npl x → (B q ↔ B' q)) → EC ok x p k B → EC ok x p k B' := by
 intro x
 induction x with
 | no => intro p k B B' _ _; exact trivial
 | step => intro p k B B' _ _; exact trivial
 | test x => intro p k B B' _ _; exact trivial
 | alt a b iha ihb =>
  intro p k B B' hq h
  exact ⟨iha p k B B' (fun q h1 h2 => hq q (by omega) (by simp only [npl]; omega)) h.1, ihb _ _ B B' (fun q h1 h2 => hq q (by omega) (by simp only [npl]; omega)) h.2⟩
 | seq a b iha ihb =>
  intro p k B B' hq h
  exact ⟨iha _ k B B' (fun q h1 h2 => hq q (by omega) (by simp only [npl]; omega)) h.1, ihb _ _ B B' (fun q h1 h2 => hq q (by omega) (by simp only [npl]; omega)) h.2⟩
 | many a iha =>
  intro p k B B' hq h
  refine ⟨iha _ k B B' (fun q h1 h2 => hq q (by omega) (by simp only [npl]; omega)) h.1, fun q he hb => ?_⟩
  have hy := ent_in a _ k q he
  exact (hq p (by omega) (by simp only [npl]; omega)).1 (h.2 q he ((hq q (by omega) (by simp only [npl]; omega)).2 hb))
theorem ec_round {ok : Int → Prop} (hok : ok (-1)) : ∀ (x : RE) (s t p k : Nat) (B : Nat → Prop), s < p → t < p → EC ok x p k (sw ok (stE x s t p k) B) := by
 intro x
 induction x with
 | no => intro s t p k B _ _; exact trivial
 | step => intro s t p k B _ _; exact trivial
 | test x => intro s t p k B _ _; exact trivial
 | alt a b iha ihb =>
  intro s t p k B hs ht
  unfold stE
  rw [sw_append]
  refine ⟨iha s t p k _ hs ht, ?_⟩
  exact ec_congr b _ _ _ _ (fun q h1 h2 => (st_keep a s t p k _ (by omega) (by omega)).symm) (ihb s t _ _ B (by omega) (by omega))
 | seq a b iha ihb =>
  intro s t p k B hs ht
  unfold stE
  rw [sw_append]
  refine ⟨iha s p _ k _ (by omega) (by omega), ?_⟩
  exact ec_congr b _ _ _ _ (fun q h1 h2 => (st_keep a s p _ k _ (by omega) (by omega)).symm) (ihb p t _ _ B (by omega) (by omega))
 | many a iha =>
  intro s t p k B hs ht
  unfold stE
  rw [sw_cons, sw_append]
  have hk : ∀ q, q ≠ s → (sw ok (stE a p p (p + 1) k) (sw ok [(p, t, -1)] B) q ↔ sw1 ok (s, p, -1) (sw ok (stE a p p (p + 1) k) (sw ok [(p, t, -1)] B)) q) := fun q hq => by
   constructor
   ·exact fun h => .inl h
   ·rintro (h | ⟨h, -⟩)
    ·exact h
    ·exact absurd h hq
  refine ⟨ec_congr a _ _ _ _ (fun q h1 h2 => hk q (by omega)) (iha p p _ k _ (by omega) (by omega)), fun q he hb => ?_⟩
  have hy := ent_in a _ k q he
  refine (hk p (by omega)).1 ?_
  rcases sw_enter a p p _ k _ q (by omega) (by omega) he ((hk q (by omega)).2 hb) with ⟨y, h1, h2⟩ | ⟨-, h⟩
  ·exact sw_least hok a p p _ k _ (.inr ⟨y, h1, h2⟩)
  ·exact h
theorem closed_round {ok : Int → Prop} (hok : ok (-1)) : ∀ (x : RE) (s t p k : Nat) (B : Nat → Prop), s < p → t < p → EC ok x p k B → (sw ok (stE x s t p k) B t → B t) →
  ∀ e ∈ stE x s t p k, ok e.2.2 → sw ok (stE x s t p k) B e.2.1 → sw ok (stE x s t p k) B e.1 := by
 intro x
 induction x with
 | no => intro s t p k B _ _ _ _ e he; cases he
 | step => intro s t p k B _ _ _ _ e he; cases he
 | test x =>
  intro s t p k B hs ht _ hst e he ho h
  obtain rfl := List.mem_singleton.1 he
  exact .inr ⟨rfl, ho, hst h⟩
 | alt a b iha ihb =>
  intro s t p k B hs ht hec hst e he ho h
  unfold stE at he h hst ⊢
  rw [sw_append] at h hst ⊢
  obtain ⟨W, hW⟩ : ∃ W, sw ok (stE b s t (p + npl a) (k + nts a)) B = W := ⟨_, rfl⟩
  have hbW : ∀ q, B q → W q := fun q h => by rw [← hW]; exact sw_ext _ h
  have hkb : ∀ q, q ≠ s → ¬ (p + npl a ≤ q ∧ q < p + npl a + npl b) → (W q ↔ B q) := fun q h1 h2 => by rw [← hW]; exact st_keep b s t _ _ B h1 h2
  have hmb := ihb s t _ _ B (by omega) (by omega) hec.2
  rw [hW] at h hst hmb ⊢
  have hka : ∀ q, q ≠ s → ¬ (p ≤ q ∧ q < p + npl a) → (sw ok (stE a s t p k) W q ↔ W q) := fun q h1 h2 => st_keep a s t p k W h1 h2
  rcases List.mem_append.1 he with he | he
  ·refine iha s t p k W hs ht (ec_congr a _ _ _ _ (fun q h1 h2 => (hkb q (by omega) (by omega)).symm) hec.1) (fun h => hbW t (hst h)) e he ho h
  ·obtain ⟨f1, f2⟩ := st_from b _ _ _ _ e he
   refine sw_ext _ (hmb (fun h => hst (sw_ext _ h)) e he ho ?_)
   rcases f2 with f2 | f2
   ·rw [f2] at h ⊢
    exact hbW _ (hst h)
   ·exact (hka _ (by omega) (by omega)).1 h
 | seq a b iha ihb =>
  intro s t p k B hs ht hec hst e he ho h
  unfold stE at he h hst ⊢
  rw [sw_append] at h hst ⊢
  obtain ⟨W, hW⟩ : ∃ W, sw ok (stE b p t (p + 1 + npl a) (k + nts a)) B = W := ⟨_, rfl⟩
  have hbW : ∀ q, B q → W q := fun q h => by rw [← hW]; exact sw_ext _ h
  have hkb : ∀ q, q ≠ p → ¬ (p + 1 + npl a ≤ q ∧ q < p + 1 + npl a + npl b) → (W q ↔ B q) := fun q h1 h2 => by rw [← hW]; exact st_keep b p t _ _ B h1 h2
  have hmb := ihb p t _ _ B (by omega) (by omega) hec.2
  rw [hW] at h hst hmb ⊢
  have hka : ∀ q, q ≠ s → ¬ (p + 1 ≤ q ∧ q < p + 1 + npl a) → (sw ok (stE a s p (p + 1) k) W q ↔ W q) := fun q h1 h2 => st_keep a s p (p + 1) k W h1 h2
  rcases List.mem_append.1 he with he | he
  ·refine iha s p (p + 1) k W (by omega) (by omega) (ec_congr a _ _ _ _ (fun q h1 h2 => (hkb q (by omega) (by omega)).symm) hec.1) (fun h => (hka p (by omega) (by omega)).1 h) e he ho h
  ·obtain ⟨f1, f2⟩ := st_from b _ _ _ _ e he
   refine sw_ext _ (hmb (fun h => hst (sw_ext _ h)) e he ho ?_)
   rcases f2 with f2 | f2
   ·rw [f2] at h ⊢
    exact hbW _ (hst h)
   ·exact (hka _ (by omega) (by omega)).1 h
 | many a iha =>
  intro s t p k B hs ht hec hst e he ho h
  unfold stE at he h hst ⊢
  rw [sw_cons, sw_append] at h hst ⊢
  obtain ⟨B1, hB1⟩ : ∃ B1, sw ok [(p, t, -1)] B = B1 := ⟨_, rfl⟩
  obtain ⟨B2, hB2⟩ : ∃ B2, sw ok (stE a p p (p + 1) k) B1 = B2 := ⟨_, rfl⟩
  have e1 : ∀ q, B q → B1 q := fun q h => by rw [← hB1]; exact sw_ext _ h
  have e2 : ∀ q, B1 q → B2 q := fun q h => by rw [← hB2]; exact sw_ext _ h
  have k1 : ∀ q, q ≠ p → (B1 q ↔ B q) := fun q hq => by
   rw [← hB1]
   exact sw_keep _ (fun e he hc => hq (by rw [← hc]; obtain rfl := List.mem_singleton.1 he; rfl))
  have k2 : ∀ q, q ≠ p → ¬ (p + 1 ≤ q ∧ q < p + 1 + npl a) → (B2 q ↔ B1 q) := fun q h1 h2 => by rw [← hB2]; exact st_keep a p p _ _ B1 h1 h2
  have kp : B2 p → B1 p := fun h => by
   rw [← hB2] at h
   rcases sw_most a p p _ k B1 (by omega) (by omega) h with h | ⟨-, h⟩ | ⟨q, h1, h2⟩
   ·exact h
   ·exact h
   ·have hq := ent_in a _ k q h1
    exact e1 _ (hec.2 q h1 ((k1 q (by omega)).1 h2))
  have hc := iha p p (p + 1) k B1 (by omega) (by omega) (ec_congr a _ _ _ _ (fun q h1 h2 => (k1 q (by omega)).symm) hec.1) (by rw [hB2]; exact kp)
  rw [hB1, hB2] at h hst ⊢
  rw [hB2] at hc
  have bt : B2 t → B1 p := fun h => by
   have hb := hst (.inl h)
   rw [← hB1]
   exact .inr ⟨rfl, hok, hb⟩
  have k3 : ∀ q, q ≠ s → (sw1 ok (s, p, -1) B2 q → B2 q) := fun q hq h => by
   rcases h with h | ⟨h, -⟩
   ·exact h
   ·exact absurd h hq
  rcases List.mem_cons.1 he with rfl | he
  ·exact .inr ⟨rfl, hok, k3 p (by omega) h⟩
  ·rcases List.mem_append.1 he with he | he
   ·obtain ⟨f1, f2⟩ := st_from a _ _ _ _ e he
    exact .inl (hc e he ho (k3 _ (by omega) h))
   ·obtain rfl := List.mem_singleton.1 he
    refine .inl (e2 _ ?_)
    rw [← hB1]
    exact .inr ⟨rfl, hok, hst h⟩
theorem two_rounds {ok : Int → Prop} (hok : ok (-1)) (x : RE) (B : Nat → Prop) : ∀ e ∈ stE x 0 1 2 0, ok e.2.2 → sw ok (stE x 0 1 2 0) (sw ok (stE x 0 1 2 0) B) e.2.1 → sw ok (stE x 0 1 2 0) (sw ok (stE x 0 1 2 0) B) e.1 :=
 closed_round hok x 0 1 2 0 _ (by omega) (by omega) (ec_round hok x 0 1 2 0 B (by omega) (by omega)) (fun h => (st_keep x 0 1 2 0 _ (by omega) (by omega)).1 h)
end Go.Proofs.YtdbgaccnejffpaaGreatDoor.Paths
