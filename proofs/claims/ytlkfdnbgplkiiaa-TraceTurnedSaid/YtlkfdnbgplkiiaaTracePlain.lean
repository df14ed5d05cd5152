/-
  Traces as plain lists: what may be, what holds, beginnings, fronts, an event added. By an AI agent.
-/
import Derived.Test.YtlkfdnbgplkiiaaTraceMem
import Derived.Test.YtlkfdnbgplkiiaaLexN
namespace Go.Proofs.Ytlkfdnbgplkiiaa.Trace
open Go.Proofs.Ytlkfdnbgplkiiaa.Lex (nameS)

/-- The i-th name is one, and none of those before it. -/
def NameGood (l : List (List UInt8)) (i : Nat) : Prop := nameS (l.getD i []) = true ∧ l.getD i [] ∉ l.take i
instance (l : List (List UInt8)) (i : Nat) : Decidable (NameGood l i) := by unfold NameGood; infer_instance
def namesOk (l : List (List UInt8)) : Bool := decide (l.length ≤ 64 ∧ ∀ i, i < l.length → NameGood l i)
/-- The i-th id is one, and greater than the one before it. -/
def IdGood (l : List Int) (props : Int) (i : Nat) : Prop := 0 ≤ l.getD i 0 ∧ l.getD i 0 < props ∧ (0 < i → l.getD (i - 1) 0 < l.getD i 0)
instance (l : List Int) (props : Int) (i : Nat) : Decidable (IdGood l props i) := by unfold IdGood; infer_instance
def idsOk (l : List Int) (props : Int) : Bool := decide (∀ i, i < l.length → IdGood l props i)
def noEv : Ev := ⟨0, []⟩
/-- The i-th event may be, behind the one before it. -/
def EvGood (l : List Ev) (props : Int) (i : Nat) : Prop := idsOk (l.getD i noEv).ids props = true ∧ (0 < i → (l.getD (i - 1) noEv).time ≤ (l.getD i noEv).time)
instance (l : List Ev) (props : Int) (i : Nat) : Decidable (EvGood l props i) := by unfold EvGood; infer_instance
def evsOk (l : List Ev) (props : Int) : Bool := decide (∀ i, i < l.length → EvGood l props i)
def mayT (t : Tr) : Bool := namesOk t.names && evsOk t.events t.names.length
def noTr : Tr := ⟨[], []⟩
def holdsT (t : Tr) (i : Int) (s : List UInt8) : Bool :=
  mayT t && (decide (0 ≤ i ∧ i < t.events.length) && (decide (s ∈ t.names) && decide (((t.names.idxOf s : Nat) : Int) ∈ (t.events.getD i.toNat noEv).ids)))
def cutT (t : Tr) (n : Int) : Tr := if mayT t then ⟨t.names, t.events.take n.toNat⟩ else noTr
def frontT (a b : Tr) : Bool := mayT a && (mayT b && (decide (a.names = b.names) && decide (a.events = b.events.take a.events.length)))
/-- The last event's time is greater. -/
def lateT (t : Tr) (e : Ev) : Bool := decide (0 < t.events.length ∧ e.time < (t.events.getD (t.events.length - 1) noEv).time)
/-- What Add tells: api's numbers of errors are handed in. -/
def addE (t : Tr) (e : Ev) : Nat := if mayT t then (if idsOk e.ids t.names.length then (if lateT t e then 8 else 0) else 9) else 1
def addT (t : Tr) (e : Ev) : Tr := if addE t e = 0 then ⟨t.names, t.events ++ [e]⟩ else noTr

/-- No row of it is long. -/
structure TrSmall (t : Tr) : Prop where
  names : t.names.length ≤ 1048576
  events : t.events.length ≤ 1048576
  ids : ∀ e ∈ t.events, e.ids.length ≤ 1048576
theorem TrSmall.none : TrSmall noTr := ⟨by decide, by decide, fun e h => by simp [noTr] at h⟩
theorem TrSmall.take {t : Tr} (h : TrSmall t) (k : Nat) : TrSmall ⟨t.names, t.events.take k⟩ :=
  ⟨h.1, by show (t.events.take k).length ≤ _; rw [List.length_take]; have := h.2; omega, fun e he => h.3 e (List.mem_of_mem_take he)⟩
theorem TrSmall.cut {t : Tr} (h : TrSmall t) (n : Int) : TrSmall (cutT t n) := by
  unfold cutT
  split
  · exact h.take _
  · exact TrSmall.none

/-! ### loops: so far, and no further -/
theorem names_yes {l : List (List UInt8)} (h64 : l.length ≤ 64) (h : ∀ i, i < l.length → NameGood l i) : namesOk l = true := decide_eq_true ⟨h64, h⟩
theorem names_no {l : List (List UInt8)} {i : Nat} (hi : i < l.length) (h : ¬ NameGood l i) : namesOk l = false := decide_eq_false fun e => h (e.2 i hi)
theorem names_long {l : List (List UInt8)} (h : 64 < l.length) : namesOk l = false := decide_eq_false fun e => by have := e.1; omega
theorem ids_yes {l : List Int} {p : Int} (h : ∀ i, i < l.length → IdGood l p i) : idsOk l p = true := decide_eq_true h
theorem ids_no {l : List Int} {p : Int} {i : Nat} (hi : i < l.length) (h : ¬ IdGood l p i) : idsOk l p = false := decide_eq_false fun e => h (e i hi)
theorem evs_yes {l : List Ev} {p : Int} (h : ∀ i, i < l.length → EvGood l p i) : evsOk l p = true := decide_eq_true h
theorem evs_no {l : List Ev} {p : Int} {i : Nat} (hi : i < l.length) (h : ¬ EvGood l p i) : evsOk l p = false := decide_eq_false fun e => h (e i hi)
theorem good_more {p : Nat → Prop} {k : Nat} (h : ∀ i, i < k → p i) (hk : p k) : ∀ i, i < k + 1 → p i := fun i hi => by
  by_cases e : i = k
  · exact e ▸ hk
  · exact h i (by omega)
theorem namesOk_iff (l : List (List UInt8)) : namesOk l = true ↔ l.length ≤ 64 ∧ ∀ i, i < l.length → NameGood l i := decide_eq_true_iff
theorem idsOk_iff (l : List Int) (p : Int) : idsOk l p = true ↔ ∀ i, i < l.length → IdGood l p i := decide_eq_true_iff
theorem evsOk_iff (l : List Ev) (p : Int) : evsOk l p = true ↔ ∀ i, i < l.length → EvGood l p i := decide_eq_true_iff
theorem mayT_iff (t : Tr) : mayT t = true ↔ namesOk t.names = true ∧ evsOk t.events t.names.length = true := by unfold mayT; rw [Bool.and_eq_true]
theorem getD_at {α : Type} {l : List α} {i : Nat} {x d : α} (h : l[i]? = some x) : l.getD i d = x := by simp [List.getD, h]

/-! ### P8.3 -/
theorem getD_take {α : Type} (l : List α) (k i : Nat) (d : α) (h : i < k) : (l.take k).getD i d = l.getD i d := by simp [List.getD, List.getElem?_take_of_lt h]
theorem evs_take {l : List Ev} {p : Int} (h : evsOk l p = true) (k : Nat) : evsOk (l.take k) p = true := by
  rw [evsOk_iff] at h ⊢
  intro i hi
  rw [List.length_take] at hi
  have := h i (by omega)
  unfold EvGood at this ⊢
  rw [getD_take _ _ _ _ (by omega), getD_take _ _ _ _ (by omega)]
  exact this
theorem cut_may (t : Tr) (n : Int) (h : mayT t = true) : mayT (cutT t n) = true := by
  unfold cutT
  rw [if_pos h]
  rw [mayT_iff] at h ⊢
  exact ⟨h.1, evs_take h.2 _⟩
theorem getD_append_left {α : Type} (l m : List α) (i : Nat) (d : α) (h : i < l.length) : (l ++ m).getD i d = l.getD i d := by simp [List.getD, List.getElem?_append_left h]
theorem evs_snoc {l : List Ev} {p : Int} {e : Ev} (h : evsOk l p = true) (hi : idsOk e.ids p = true) (ht : 0 < l.length → (l.getD (l.length - 1) noEv).time ≤ e.time) : evsOk (l ++ [e]) p = true := by
  rw [evsOk_iff] at h ⊢
  intro i hl
  rw [List.length_append, List.length_singleton] at hl
  by_cases hlt : i < l.length
  · have := h i hlt
    unfold EvGood at this ⊢
    rw [getD_append_left _ _ _ _ hlt, getD_append_left _ _ _ _ (by omega)]
    exact this
  · have e1 : i = l.length := by omega
    subst e1
    have e2 : (l ++ [e]).getD l.length noEv = e := by simp [List.getD]
    unfold EvGood
    rw [e2]
    refine ⟨hi, fun h0 => ?_⟩
    rw [getD_append_left _ _ _ _ (by omega)]
    exact ht h0
theorem add_may (t : Tr) (e : Ev) (h : addE t e = 0) : mayT (addT t e) = true := by
  unfold addT
  rw [if_pos h]
  unfold addE at h
  by_cases hm : mayT t = true
  · rw [if_pos hm] at h
    by_cases hi : idsOk e.ids t.names.length = true
    · rw [if_pos hi] at h
      by_cases hl : lateT t e = true
      · rw [if_pos hl] at h
        omega
      · have hl' : lateT t e = false := by simpa using hl
        rw [mayT_iff] at hm ⊢
        refine ⟨hm.1, evs_snoc hm.2 hi fun h0 => ?_⟩
        have := of_decide_eq_false hl'
        omega
    · rw [if_neg hi] at h
      omega
  · rw [if_neg hm] at h
    omega
/-- A beginning of a trace that may be, with the next event. -/
theorem add_next {t : Tr} {k : Nat} (h : mayT t = true) (hk : k < t.events.length) : addE ⟨t.names, t.events.take k⟩ (t.events.getD k noEv) = 0 ∧ addT ⟨t.names, t.events.take k⟩ (t.events.getD k noEv) = ⟨t.names, t.events.take (k + 1)⟩ := by
  have hm := (mayT_iff t).1 h
  have hg := (evsOk_iff _ _).1 hm.2 k hk
  have h1 : mayT ⟨t.names, t.events.take k⟩ = true := (mayT_iff _).2 ⟨hm.1, evs_take hm.2 k⟩
  have h2 : lateT ⟨t.names, t.events.take k⟩ (t.events.getD k noEv) = false := by
    unfold lateT
    apply decide_eq_false
    rintro ⟨h0, hl⟩
    simp only at h0 hl
    have e : (t.events.take k).length = k := by rw [List.length_take]; omega
    rw [e] at h0 hl
    rw [getD_take _ _ _ _ (by omega)] at hl
    have := hg.2 h0
    omega
  have h3 : addE ⟨t.names, t.events.take k⟩ (t.events.getD k noEv) = 0 := by
    unfold addE
    rw [if_pos h1, if_pos hg.1, if_neg (by rw [h2]; simp)]
  refine ⟨h3, ?_⟩
  unfold addT
  rw [if_pos h3, List.take_succ_eq_append_getElem hk]
  simp [List.getD, hk]
end Go.Proofs.Ytlkfdnbgplkiiaa.Trace
