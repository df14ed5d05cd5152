/-
  Traces as plain lists: what may be, what holds, beginnings, fronts, an event added. By an AI agent.
  Logs as plain lists of bytes: the header, what Encode writes. By an AI agent.
  A log's header as it is read, as plain lists. By an AI agent.
  P9.3 as plain lists: Get of Put is the event; what is got is what Put writes; fronts, changed bytes, other numbers of names. By an AI agent.
  A log's records as they are read, as plain lists. By an AI agent.
-/
import Derived.Test.YtimbbfneaaglbaaGreatGHeadsPlays4
import Derived.Test.YtimbbfneaaglbaaGreatGHeadsPlays2
import Derived.Test.YtimbbfneaaglbaaGreatGHeadsPlays5
import Derived.Test.YtimbbfneaaglbaaGreatGHeadsPlays3
namespace Go.Proofs.YtimbbfneaaglbaaGreat.Trace
open Go.Proofs.YtimbbfneaaglbaaGreat.Lex (nameS)

/-- The i-th name is one, and none of those before it. -/
def NameGood (l : List (List UInt8)) (i : Nat) : Prop := nameS (l.getD i []) = true ∧ l.getD i [] ∉ l.take i
instance (l : List (List UInt8)) (i : Nat) : Decidable (NameGood l i) := by unfold NameGood; infer_instance
def namesOk (l : List (List UInt8)) : Bool := decide (l.length ≤ 64 ∧ ∀ i, i < l.length → NameGood l i)
/-- The i-th event may be, behind the one before it. -/
def EvGood (l : List Ev) (props : Int) (i : Nat) : Prop := idsOk (l.getD i noEv).ids props = true ∧ (0 < i → (l.getD (i - 1) noEv).time ≤ (l.getD i noEv).time)
instance (l : List Ev) (props : Int) (i : Nat) : Decidable (EvGood l props i) := by unfold EvGood; infer_instance
def evsOk (l : List Ev) (props : Int) : Bool := decide (∀ i, i < l.length → EvGood l props i)
def mayT (t : Tr) : Bool := namesOk t.names && evsOk t.events t.names.length
def noTr : Tr := ⟨[], []⟩
def holdsT (t : Tr) (i : Int) (s : List UInt8) : Bool :=
  mayT t && (decide (0 ≤ i ∧ i < t.events.length) && (decide (s ∈ t.names) && decide (((t.names.idxOf s : Nat) : Int) ∈ (t.events.getD i.toNat noEv).ids)))
def cutT (t : Tr) (n : Int) : Tr := if mayT t then ⟨t.names, t.events.take n.toNat⟩ else noTr
def frontT (a b : Tr) : Bool := mayT a && (mayT b && (decide (a.names = b.names) && decide (a.events = b.events.take a.events.length)))
/-- The last event's time is greater. -/
def lateT (t : Tr) (e : Ev) : Bool := decide (0 < t.events.length ∧ e.time < (t.events.getD (t.events.length - 1) noEv).time)
/-- What Add tells: api's numbers of errors are handed in. -/
def addE (t : Tr) (e : Ev) : Nat := if mayT t then (if idsOk e.ids t.names.length then (if lateT t e then 8 else 0) else 9) else 1
def addT (t : Tr) (e : Ev) : Tr := if addE t e = 0 then ⟨t.names, t.events ++ [e]⟩ else noTr

/-- No row of it is long. -/
structure TrSmall (t : Tr) : Prop where
  names : t.names.length ≤ 1048576
  events : t.events.length ≤ 1048576
  ids : ∀ e ∈ t.events, e.ids.length ≤ 1048576
theorem TrSmall.none : TrSmall noTr := ⟨by decide, by decide, fun e h => by simp [noTr] at h⟩
theorem TrSmall.take {t : Tr} (h : TrSmall t) (k : Nat) : TrSmall ⟨t.names, t.events.take k⟩ :=
  ⟨h.1, by show (t.events.take k).length ≤ _; rw [List.length_take]; have := h.2; omega, fun e he => h.3 e (List.mem_of_mem_take he)⟩
theorem TrSmall.cut {t : Tr} (h : TrSmall t) (n : Int) : TrSmall (cutT t n) := by
  unfold cutT
  split
  · exact h.take _
  · exact TrSmall.none

/-! ### loops: so far, and no further -/
theorem names_yes {l : List (List UInt8)} (h64 : l.length ≤ 64) (h : ∀ i, i < l.length → NameGood l i) : namesOk l = true := decide_eq_true ⟨h64, h⟩
theorem names_no {l : List (List UInt8)} {i : Nat} (hi : i < l.length) (h : ¬ NameGood l i) : namesOk l = false := decide_eq_false fun e => h (e.2 i hi)
theorem names_long {l : List (List UInt8)} (h : 64 < l.length) : namesOk l = false := decide_eq_false fun e => by have := e.1; omega
theorem evs_yes {l : List Ev} {p : Int} (h : ∀ i, i < l.length → EvGood l p i) : evsOk l p = true := decide_eq_true h
theorem evs_no {l : List Ev} {p : Int} {i : Nat} (hi : i < l.length) (h : ¬ EvGood l p i) : evsOk l p = false := decide_eq_false fun e => h (e i hi)
theorem namesOk_iff (l : List (List UInt8)) : namesOk l = true ↔ l.length ≤ 64 ∧ ∀ i, i < l.length → NameGood l i := decide_eq_true_iff
theorem evsOk_iff (l : List Ev) (p : Int) : evsOk l p = true ↔ ∀ i, i < l.length → EvGood l p i := decide_eq_true_iff
theorem mayT_iff (t : Tr) : mayT t = true ↔ namesOk t.names = true ∧ evsOk t.events t.names.length = true := by unfold mayT; rw [Bool.and_eq_true]

/-! ### P8.3 -/
theorem evs_take {l : List Ev} {p : Int} (h : evsOk l p = true) (k : Nat) : evsOk (l.take k) p = true := by
  rw [evsOk_iff] at h ⊢
  intro i hi
  rw [List.length_take] at hi
  have := h i (by omega)
  unfold EvGood at this ⊢
  rw [getD_take _ _ _ _ (by omega), getD_take _ _ _ _ (by omega)]
  exact this
theorem cut_may (t : Tr) (n : Int) (h : mayT t = true) : mayT (cutT t n) = true := by
  unfold cutT
  rw [if_pos h]
  rw [mayT_iff] at h ⊢
  exact ⟨h.1, evs_take h.2 _⟩
theorem evs_snoc {l : List Ev} {p : Int} {e : Ev} (h : evsOk l p = true) (hi : idsOk e.ids p = true) (ht : 0 < l.length → (l.getD (l.length - 1) noEv).time ≤ e.time) : evsOk (l ++ [e]) p = true := by
  rw [evsOk_iff] at h ⊢
  intro i hl
  rw [List.length_append, List.length_singleton] at hl
  by_cases hlt : i < l.length
  · have := h i hlt
    unfold EvGood at this ⊢
    rw [getD_append_left _ _ _ _ hlt, getD_append_left _ _ _ _ (by omega)]
    exact this
  · have e1 : i = l.length := by omega
    subst e1
    have e2 : (l ++ [e]).getD l.length noEv = e := by simp [List.getD]
    unfold EvGood
    rw [e2]
    refine ⟨hi, fun h0 => ?_⟩
    rw [getD_append_left _ _ _ _ (by omega)]
    exact ht h0
theorem add_may (t : Tr) (e : Ev) (h : addE t e = 0) : mayT (addT t e) = true := by
  unfold addT
  rw [if_pos h]
  unfold addE at h
  by_cases hm : mayT t = true
  · rw [if_pos hm] at h
    by_cases hi : idsOk e.ids t.names.length = true
    · rw [if_pos hi] at h
      by_cases hl : lateT t e = true
      · rw [if_pos hl] at h
        omega
      · have hl' : lateT t e = false := by simpa using hl
        rw [mayT_iff] at hm ⊢
        refine ⟨hm.1, evs_snoc hm.2 hi fun h0 => ?_⟩
        have := of_decide_eq_false hl'
        omega
    · rw [if_neg hi] at h
      omega
  · rw [if_neg hm] at h
    omega
/-- A beginning of a trace that may be, with the next event. -/
theorem add_next {t : Tr} {k : Nat} (h : mayT t = true) (hk : k < t.events.length) : addE ⟨t.names, t.events.take k⟩ (t.events.getD k noEv) = 0 ∧ addT ⟨t.names, t.events.take k⟩ (t.events.getD k noEv) = ⟨t.names, t.events.take (k + 1)⟩ := by
  have hm := (mayT_iff t).1 h
  have hg := (evsOk_iff _ _).1 hm.2 k hk
  have h1 : mayT ⟨t.names, t.events.take k⟩ = true := (mayT_iff _).2 ⟨hm.1, evs_take hm.2 k⟩
  have h2 : lateT ⟨t.names, t.events.take k⟩ (t.events.getD k noEv) = false := by
    unfold lateT
    apply decide_eq_false
    rintro ⟨h0, hl⟩
    simp only at h0 hl
    have e : (t.events.take k).length = k := by rw [List.length_take]; omega
    rw [e] at h0 hl
    rw [getD_take _ _ _ _ (by omega)] at hl
    have := hg.2 h0
    omega
  have h3 : addE ⟨t.names, t.events.take k⟩ (t.events.getD k noEv) = 0 := by
    unfold addE
    rw [if_pos h1, if_pos hg.1, if_neg (by rw [h2]; simp)]
  refine ⟨h3, ?_⟩
  unfold addT
  rw [if_pos h3, List.take_succ_eq_append_getElem hk]
  simp [List.getD, hk]
end Go.Proofs.YtimbbfneaaglbaaGreat.Trace

namespace Go.Proofs.YtimbbfneaaglbaaGreat.Log
open Go.Proofs.YtimbbfneaaglbaaGreat.Ints Go.Proofs.YtimbbfneaaglbaaGreat.SumMath Go.Proofs.YtimbbfneaaglbaaGreat.SumWalks Go.Proofs.YtimbbfneaaglbaaGreat.Trace Go.Proofs.YtimbbfneaaglbaaGreat.Record
open Go.Proofs.YtimbbfneaaglbaaGreat.Lex (nameS)

/-- A text's bytes as numbers. -/
def toI (s : List UInt8) : List Int := s.map fun b => (b.toNat : Int)
/-- A name as it stands in a header. -/
def nameB (s : List UInt8) : List Int := ((s.length : Int) % 256) :: toI s
def frontL (names : List (List UInt8)) : List Int := [87, 71, 76, 1, (names.length : Int) % 256] ++ names.flatMap nameB
def headL (names : List (List UInt8)) : List Int := frontL names ++ be4 (adn 1 (frontL names))
/-- What Encode writes. -/
def encL (t : Tr) : List Int := if mayT t then headL t.names ++ t.events.flatMap recR else []

theorem toI_len (s : List UInt8) : (toI s).length = s.length := by simp [toI]
theorem toI_bytes (s : List UInt8) : ∀ z ∈ toI s, 0 ≤ z ∧ z ≤ 255 := by
  intro z hz
  obtain ⟨b, _, rfl⟩ := List.mem_map.1 hz
  have := b.toNat_lt
  omega
theorem nameB_len (s : List UInt8) : (nameB s).length = s.length + 1 := by simp [nameB, toI]
theorem nameB_bytes (s : List UInt8) : ∀ z ∈ nameB s, 0 ≤ z ∧ z ≤ 255 := by
  intro z hz
  rcases List.mem_cons.1 hz with rfl | h
  · omega
  · exact toI_bytes s z h
theorem flat_len {names : List (List UInt8)} {m : Nat} (h : ∀ s ∈ names, s.length ≤ m) : (names.flatMap nameB).length ≤ (m + 1) * names.length := by
  induction names with
  | nil => simp
  | cons s l ih =>
    rw [List.flatMap_cons, List.length_append, nameB_len, List.length_cons, Nat.mul_succ]
    have h1 := h s (List.mem_cons_self ..)
    have h2 := ih (fun x hx => h x (List.mem_cons_of_mem _ hx))
    omega
theorem flat_next (names : List (List UInt8)) (k : Nat) (hk : k < names.length) : (names.take (k + 1)).flatMap nameB = (names.take k).flatMap nameB ++ nameB (names.getD k []) := by
  rw [List.take_succ_eq_append_getElem hk, List.flatMap_append]
  simp [List.getD, hk]
theorem front_bytes (names : List (List UInt8)) : ∀ z ∈ frontL names, 0 ≤ z ∧ z ≤ 255 := by
  intro z hz
  rcases List.mem_append.1 hz with h | h
  · simp at h
    omega
  · obtain ⟨s, _, h2⟩ := List.mem_flatMap.1 h
    exact nameB_bytes s z h2
theorem head_bytes (names : List (List UInt8)) : ∀ z ∈ headL names, 0 ≤ z ∧ z ≤ 255 := by
  intro z hz
  rcases List.mem_append.1 hz with h | h
  · exact front_bytes names z h
  · exact be4_bytes (adn_bd 1 _) z h
theorem name_le {s : List UInt8} (h : nameS s = true) : 1 ≤ s.length ∧ s.length ≤ 16 := by
  cases s with
  | nil => simp [nameS] at h
  | cons c r =>
    simp only [nameS, Bool.and_eq_true, decide_eq_true_eq] at h
    rw [List.length_cons]
    omega
theorem names_le {l : List (List UInt8)} (h : namesOk l = true) : ∀ s ∈ l, 1 ≤ s.length ∧ s.length ≤ 16 := by
  intro s hs
  obtain ⟨i, hi, rfl⟩ := List.getElem_of_mem hs
  have := ((namesOk_iff l).1 h).2 i hi
  have e : l.getD i [] = l[i] := by simp [List.getD, hi]
  unfold NameGood at this
  rw [e] at this
  exact name_le this.1
end Go.Proofs.YtimbbfneaaglbaaGreat.Log

namespace Go.Proofs.YtimbbfneaaglbaaGreat.Log
open Go.Proofs.YtimbbfneaaglbaaGreat.Ints Go.Proofs.YtimbbfneaaglbaaGreat.SumMath Go.Proofs.YtimbbfneaaglbaaGreat.SumWalks Go.Proofs.YtimbbfneaaglbaaGreat.Trace Go.Proofs.YtimbbfneaaglbaaGreat.Record
open Go.Proofs.YtimbbfneaaglbaaGreat.Lex (nameS)

/-- Numbers as bytes. -/
def toU (l : List Int) : List UInt8 := l.map fun z => UInt8.ofNat z.toNat
def byteAt (b : List Int) (i : Nat) : Nat := (b[i]?.getD 0).toNat
/-- So many names, from a place on; behind those that were read: the names, the place behind them, what is wrong (0: nothing is). -/
def namesD (b : List Int) (miss : Nat) : Nat → Nat → List (List UInt8) → List (List UInt8) × Nat × Nat
  | 0, at_, acc => (acc, at_, 0)
  | k + 1, at_, acc =>
    if b.length ≤ at_ then ([], 0, miss)
    else if byteAt b at_ < 1 ∨ 16 < byteAt b at_ then ([], 0, 5)
    else if b.length < at_ + 1 + byteAt b at_ then ([], 0, miss)
    else if nameS (toU ((b.drop (at_ + 1)).take (byteAt b at_))) = false ∨ toU ((b.drop (at_ + 1)).take (byteAt b at_)) ∈ acc then ([], 0, 5)
    else namesD b miss k (at_ + 1 + byteAt b at_) (acc ++ [toU ((b.drop (at_ + 1)).take (byteAt b at_))])
def lastD (b : List Int) (miss : Nat) (r : List (List UInt8) × Nat × Nat) : List (List UInt8) × Nat × Nat :=
  if r.2.2 ≠ 0 then ([], 0, r.2.2)
  else if b.length < r.2.1 + 4 then ([], 0, miss)
  else if sealedB (b.take (r.2.1 + 4)) = false then ([], 0, 5)
  else (r.1, r.2.1 + 4, 0)
/-- The header at the beginning of bytes: its names, how many bytes it has, what is wrong. -/
def headD (b : List Int) (miss : Nat) : List (List UInt8) × Nat × Nat :=
  if b.length < 5 then ([], 0, miss)
  else if b.take 4 ≠ [87, 71, 76, 1] ∨ 64 < byteAt b 4 then ([], 0, 5)
  else lastD b miss (namesD b miss (byteAt b 4) 5 [])
theorem namesD_zero (b : List Int) (miss at_ : Nat) (acc : List (List UInt8)) : namesD b miss 0 at_ acc = (acc, at_, 0) := rfl
theorem namesD_end {b : List Int} {miss at_ : Nat} {acc : List (List UInt8)} (k : Nat) (h : b.length ≤ at_) : namesD b miss (k + 1) at_ acc = ([], 0, miss) := by
  rw [namesD, if_pos h]
theorem namesD_len {b : List Int} {miss at_ : Nat} {acc : List (List UInt8)} (k : Nat) (h : ¬ b.length ≤ at_) (h2 : byteAt b at_ < 1 ∨ 16 < byteAt b at_) : namesD b miss (k + 1) at_ acc = ([], 0, 5) := by
  rw [namesD, if_neg h, if_pos h2]
theorem namesD_short {b : List Int} {miss at_ : Nat} {acc : List (List UInt8)} (k : Nat) (h : ¬ b.length ≤ at_) (h2 : ¬ (byteAt b at_ < 1 ∨ 16 < byteAt b at_)) (h3 : b.length < at_ + 1 + byteAt b at_) : namesD b miss (k + 1) at_ acc = ([], 0, miss) := by
  rw [namesD, if_neg h, if_neg h2, if_pos h3]
theorem namesD_none {b : List Int} {miss at_ : Nat} {acc : List (List UInt8)} (k : Nat) (h : ¬ b.length ≤ at_) (h2 : ¬ (byteAt b at_ < 1 ∨ 16 < byteAt b at_)) (h3 : ¬ b.length < at_ + 1 + byteAt b at_) {s : List UInt8} (hs : toU ((b.drop (at_ + 1)).take (byteAt b at_)) = s)
    (h4 : nameS s = false ∨ s ∈ acc) : namesD b miss (k + 1) at_ acc = ([], 0, 5) := by
  rw [namesD, if_neg h, if_neg h2, if_neg h3, hs, if_pos h4]
theorem namesD_next {b : List Int} {miss at_ : Nat} {acc : List (List UInt8)} (k : Nat) (h : ¬ b.length ≤ at_) (h2 : ¬ (byteAt b at_ < 1 ∨ 16 < byteAt b at_)) (h3 : ¬ b.length < at_ + 1 + byteAt b at_) {s : List UInt8} (hs : toU ((b.drop (at_ + 1)).take (byteAt b at_)) = s)
    (h4 : nameS s = true) (h5 : s ∉ acc) : namesD b miss (k + 1) at_ acc = namesD b miss k (at_ + 1 + byteAt b at_) (acc ++ [s]) := by
  rw [namesD, if_neg h, if_neg h2, if_neg h3, hs, if_neg (by rintro (e | e); · rw [h4] at e; cases e
                                                             · exact h5 e)]
theorem byte_bd {b : List Int} (h : ∀ z ∈ b, 0 ≤ z ∧ z ≤ 255) (i : Nat) : byteAt b i ≤ 255 ∧ b[i]?.getD 0 = (byteAt b i : Int) := by
  unfold byteAt
  rcases hb : b[i]? with _ | z
  · simp
  · have := h z (List.mem_of_getElem? hb)
    simp
    omega
/-- What names that are read are. -/
theorem namesD_inv {b : List Int} {miss : Nat} (hm : miss ≠ 0) : ∀ (k p : Nat) (acc : List (List UInt8)), (∀ s ∈ acc, nameS s = true) → acc.Nodup →
    ((namesD b miss k p acc).2.2 = 0 → p ≤ (namesD b miss k p acc).2.1 ∧ (namesD b miss k p acc).1.length = acc.length + k ∧ (∀ s ∈ (namesD b miss k p acc).1, nameS s = true) ∧ (namesD b miss k p acc).1.Nodup) ∧
      ((namesD b miss k p acc).2.2 ≠ 0 → (namesD b miss k p acc).1 = []) := by
  intro k
  induction k with
  | zero => intro p acc h1 h2; exact ⟨fun _ => ⟨Nat.le_refl _, rfl, h1, h2⟩, fun h => absurd rfl h⟩
  | succ k ih =>
    intro p acc h1 h2
    by_cases e1 : b.length ≤ p
    · rw [namesD_end k e1]
      exact ⟨fun h => absurd h hm, fun _ => rfl⟩
    by_cases e2 : byteAt b p < 1 ∨ 16 < byteAt b p
    · rw [namesD_len k e1 e2]
      exact ⟨fun h => absurd h (by decide), fun _ => rfl⟩
    by_cases e3 : b.length < p + 1 + byteAt b p
    · rw [namesD_short k e1 e2 e3]
      exact ⟨fun h => absurd h hm, fun _ => rfl⟩
    obtain ⟨s, hs⟩ : ∃ s, toU ((b.drop (p + 1)).take (byteAt b p)) = s := ⟨_, rfl⟩
    by_cases e4 : nameS s = false ∨ s ∈ acc
    · rw [namesD_none k e1 e2 e3 hs e4]
      exact ⟨fun h => absurd h (by decide), fun _ => rfl⟩
    have e5 : nameS s = true := by
      rcases h : nameS s
      · exact absurd (Or.inl h) e4
      · rfl
    have e6 : s ∉ acc := fun h => e4 (Or.inr h)
    rw [namesD_next k e1 e2 e3 hs e5 e6]
    obtain ⟨i1, i2⟩ := ih (p + 1 + byteAt b p) (acc ++ [s]) (fun x hx => (List.mem_append.1 hx).elim (h1 x) (fun h => by rw [List.mem_singleton.1 h]; exact e5))
      (List.nodup_append.2 ⟨h2, by simp, fun x hx y hy => by rw [List.mem_singleton.1 hy]; exact fun e => e6 (e ▸ hx)⟩)
    refine ⟨fun h => ?_, i2⟩
    obtain ⟨j1, j2, j3, j4⟩ := i1 h
    refine ⟨by omega, ?_, j3, j4⟩
    rw [j2, List.length_append, List.length_singleton]
    omega
theorem headD_ok {b : List Int} {miss : Nat} (hm : miss ≠ 0) (h : (headD b miss).2.2 = 0) :
    5 ≤ b.length ∧ b.take 4 = [87, 71, 76, 1] ∧ byteAt b 4 ≤ 64 ∧ (namesD b miss (byteAt b 4) 5 []).2.2 = 0 ∧ (namesD b miss (byteAt b 4) 5 []).2.1 + 4 ≤ b.length ∧
      sealedB (b.take ((namesD b miss (byteAt b 4) 5 []).2.1 + 4)) = true ∧ headD b miss = ((namesD b miss (byteAt b 4) 5 []).1, (namesD b miss (byteAt b 4) 5 []).2.1 + 4, 0) := by
  unfold headD lastD at h ⊢
  split at h
  · exact absurd h hm
  · rename_i h1
    split at h
    · exact absurd h (by decide)
    · rename_i h2
      split at h
      · rename_i h3
        exact absurd h h3
      · rename_i h3
        split at h
        · exact absurd h hm
        · rename_i h4
          split at h
          · exact absurd h (by decide)
          · rename_i h5
            have g2 : b.take 4 = [87, 71, 76, 1] := by
              by_cases e : b.take 4 = [87, 71, 76, 1]
              · exact e
              · exact absurd (Or.inl e) h2
            refine ⟨by omega, g2, by omega, by omega, by omega, by simpa using h5, ?_⟩
            rw [if_neg h1, if_neg h2, if_neg h3, if_neg h4, if_neg h5]
/-- What a header's names are. -/
theorem headD_names {b : List Int} {miss : Nat} (hm : miss ≠ 0) (h : (headD b miss).2.2 = 0) : namesOk (headD b miss).1 = true := by
  obtain ⟨-, -, g3, g4, -, -, g7⟩ := headD_ok hm h
  obtain ⟨i1, -⟩ := namesD_inv (b := b) hm (byteAt b 4) 5 [] (fun s hs => by cases hs) List.nodup_nil
  obtain ⟨-, j2, j3, j4⟩ := i1 g4
  rw [g7, namesOk_iff]
  obtain ⟨l, hl⟩ : ∃ l, (namesD b miss (byteAt b 4) 5 []).1 = l := ⟨_, rfl⟩
  rw [hl] at j2 j3 j4
  show (namesD b miss (byteAt b 4) 5 []).1.length ≤ 64 ∧ ∀ i, i < (namesD b miss (byteAt b 4) 5 []).1.length → NameGood (namesD b miss (byteAt b 4) 5 []).1 i
  rw [hl]
  refine ⟨by rw [j2]; simp only [List.length_nil]; omega, fun i hi => ?_⟩
  have e : l.getD i [] = l[i] := by simp [List.getD, hi]
  unfold NameGood
  rw [e]
  refine ⟨j3 _ (List.getElem_mem hi), fun hin => ?_⟩
  obtain ⟨j, hj, hje⟩ := List.getElem_of_mem hin
  rw [List.length_take] at hj
  rw [List.getElem_take] at hje
  have := List.pairwise_iff_getElem.1 j4 j i (by omega) hi (by omega)
  exact this hje
theorem head_place {b : List Int} {miss : Nat} (hm : miss ≠ 0) (h : (headD b miss).2.2 = 0) : 9 ≤ (headD b miss).2.1 ∧ (headD b miss).2.1 ≤ b.length := by
  obtain ⟨-, -, -, g4, g5, -, g7⟩ := headD_ok hm h
  obtain ⟨i1, -⟩ := namesD_inv (b := b) hm (byteAt b 4) 5 [] (fun s hs => by cases hs) List.nodup_nil
  have := (i1 g4).1
  rw [g7]
  exact ⟨by show 9 ≤ _ + 4; omega, g5⟩
theorem head_bad {b : List Int} {miss : Nat} (h : (headD b miss).2.2 ≠ 0) : (headD b miss).1 = [] := by
  unfold headD lastD at h ⊢
  split
  · rfl
  · rename_i h1
    rw [if_neg h1] at h
    split
    · rfl
    · rename_i h2
      rw [if_neg h2] at h
      split
      · rfl
      · rename_i h3
        rw [if_neg h3] at h
        split
        · rfl
        · rename_i h4
          rw [if_neg h4] at h
          split
          · rfl
          · rename_i h5
            rw [if_neg h5] at h
            exact absurd rfl h
theorem head_names {b : List Int} {miss : Nat} (hm : miss ≠ 0) : (headD b miss).1.length ≤ 64 ∧ ∀ s ∈ (headD b miss).1, s.length ≤ 16 := by
  by_cases h : (headD b miss).2.2 = 0
  · have := headD_names hm h
    exact ⟨((namesOk_iff _).1 this).1, fun s hs => (names_le this s hs).2⟩
  · rw [head_bad h]
    exact ⟨by decide, fun s hs => by cases hs⟩
end Go.Proofs.YtimbbfneaaglbaaGreat.Log

namespace Go.Proofs.YtimbbfneaaglbaaGreat.Record
open Go.Proofs.YtimbbfneaaglbaaGreat.Ints Go.Proofs.YtimbbfneaaglbaaGreat.SumMath Go.Proofs.YtimbbfneaaglbaaGreat.SumWalks Go.Proofs.YtimbbfneaaglbaaGreat.Trace

theorem body_front (e : Ev) (t : List Int) : (bodyR e ++ t).take 2 = be2 (8 + (e.ids.length : Int)) ∧ ((bodyR e ++ t).drop 2).take 8 = be8 e.time ∧ (bodyR e ++ t).drop 10 = e.ids ++ t := by
  simp [bodyR, be2, be8]
theorem body_lenR {e : Ev} (h : e.ids.length ≤ 64) (t : List Int) : lenR (bodyR e ++ t) = 8 + e.ids.length := by
  unfold lenR
  rw [(body_front e t).1, num_be2 (by omega) (by omega)]
  omega
theorem body_ev {e : Ev} (h : e.ids.length ≤ 64) (h0 : 0 ≤ e.time) (h1 : e.time ≤ 18446744073709551615) (t : List Int) : evR (bodyR e ++ t) = e := by
  unfold evR
  rw [body_lenR h t, (body_front e t).2.1, (body_front e t).2.2, num_be8 h0 h1, show 8 + e.ids.length - 8 = e.ids.length by omega, List.take_left]
theorem rec_sealed (e : Ev) : sealedB (recR e) = true := by
  unfold sealedB
  rw [rec_len, show 14 + e.ids.length - 4 = (bodyR e).length by rw [body_len]; omega]
  refine decide_eq_true ⟨by omega, ?_⟩
  unfold recR
  rw [List.drop_left, List.take_left]
/-- Get of what Put has written, whatever stands behind it. -/
theorem get_put {e : Ev} (hi : idsOk e.ids 64 = true) (h0 : 0 ≤ e.time) (h1 : e.time ≤ 18446744073709551615) (rest : List Int) :
    errR (recR e ++ rest) (propsR 64) = 0 ∧ getE (recR e ++ rest) 64 = e ∧ getN (recR e ++ rest) 64 = 14 + e.ids.length := by
  have hc : e.ids.length ≤ 64 := by have := ids_count hi; omega
  have hf : recR e ++ rest = bodyR e ++ (be4 (adn 1 (bodyR e)) ++ rest) := by unfold recR; rw [List.append_assoc]
  have hL : lenR (recR e ++ rest) = 8 + e.ids.length := by rw [hf]; exact body_lenR hc _
  have hE : evR (recR e ++ rest) = e := by rw [hf]; exact body_ev hc h0 h1 _
  have hp : propsR 64 = 64 := by decide
  have herr : errR (recR e ++ rest) (propsR 64) = 0 := by
    have hs : sizeE (recR e ++ rest) 64 = 0 := by
      unfold sizeE
      rw [List.length_append, rec_len, if_neg (by omega), if_neg (by omega), hL, if_neg (by omega), if_neg (by omega)]
    unfold errR
    rw [hp, if_neg (by omega), hL, hE, show 8 + e.ids.length + 6 = (recR e).length by rw [rec_len]; omega, List.take_left, rec_sealed, hi]
    rfl
  refine ⟨herr, by unfold getE; rw [if_pos herr, hE], ?_⟩
  unfold getN
  rw [if_pos herr, hL]
  omega

theorem eight {l : List Int} (h : l.length = 8) : ∃ a b c d e f g k, l = [a, b, c, d, e, f, g, k] := by
  match l, h with
  | [a, b, c, d, e, f, g, k], _ => exact ⟨a, b, c, d, e, f, g, k, rfl⟩
theorem be8_num {l : List Int} (h : l.length = 8) (hb : ∀ z ∈ l, 0 ≤ z ∧ z ≤ 255) : be8 (numR l) = l := by
  obtain ⟨a, b, c, d, e, f, g, k, rfl⟩ := eight h
  exact num8 (hb a (by simp)) (hb b (by simp)) (hb c (by simp)) (hb d (by simp)) (hb e (by simp)) (hb f (by simp)) (hb g (by simp)) (hb k (by simp))
theorem be2_num {l : List Int} (h : l.length = 2) (hb : ∀ z ∈ l, 0 ≤ z ∧ z ≤ 255) : be2 (numR l) = l := by
  match l, h with
  | [a, b], _ => exact num2 (hb a (by simp)) (hb b (by simp))
theorem ids_wide {l : List Int} {p : Int} (hp : p ≤ 64) (h : idsOk l p = true) : idsOk l 64 = true := by
  rw [idsOk_iff] at h ⊢
  intro i hi
  have := h i hi
  unfold IdGood at this ⊢
  exact ⟨this.1, by omega, this.2.2⟩
theorem err_zero {b : List Int} {q : Int} (h : errR b q = 0) : sizeE b q = 0 ∧ sealedB (b.take (lenR b + 6)) = true ∧ idsOk (evR b).ids q = true := by
  unfold errR at h
  split at h
  · omega
  · rename_i h0
    split at h
    · omega
    · rename_i h1
      split at h
      · omega
      · rename_i h2
        exact ⟨by omega, by simpa using h1, by simpa using h2⟩
theorem size_zero {b : List Int} {q : Int} (h : sizeE b q = 0) : 2 ≤ b.length ∧ 8 ≤ lenR b ∧ (lenR b : Int) ≤ 8 + q ∧ lenR b + 6 ≤ b.length := by
  unfold sizeE at h
  split at h
  · omega
  · split at h
    · omega
    · split at h
      · omega
      · split at h
        · omega
        · omega
/-- What is got is what Put writes. -/
theorem put_get {b : List Int} {p : Int} (hb : ∀ z ∈ b, 0 ≤ z ∧ z ≤ 255) (h : errR b (propsR p) = 0) :
    getN b p ≤ b.length ∧ putR [] (getE b p) = b.take (getN b p) := by
  obtain ⟨h1, h2, h3⟩ := err_zero h
  obtain ⟨g1, g2, g3, g4⟩ := size_zero h1
  have hq := props_bd p
  have hE : getE b p = evR b := by unfold getE; rw [if_pos h]
  have hN : getN b p = lenR b + 6 := by unfold getN; rw [if_pos h]
  rw [hE, hN]
  refine ⟨g4, ?_⟩
  obtain ⟨L, hL⟩ : ∃ L, lenR b = L := ⟨_, rfl⟩
  have hnum : (L : Int) = numR (b.take 2) := by
    have := (num_bd 2 (b.take 2) (by rw [List.length_take]; omega) (fun z hz => hb z (List.mem_of_mem_take hz))).1
    rw [← hL]; unfold lenR; omega
  rw [hL] at h2 g2 g3 g4 ⊢
  have hlen : (evR b).ids.length = L - 8 := by
    unfold evR
    rw [hL]
    show ((b.drop 10).take (L - 8)).length = _
    rw [List.length_take, List.length_drop]
    omega
  have hbody : bodyR (evR b) = b.take (L + 2) := by
    unfold bodyR
    rw [hlen, show (8 : Int) + ((L - 8 : Nat) : Int) = (L : Int) by omega, hnum, be2_num (by rw [List.length_take]; omega) (fun z hz => hb z (List.mem_of_mem_take hz))]
    have ht : be8 (evR b).time = (b.drop 2).take 8 := be8_num (by rw [List.length_take, List.length_drop]; omega) (fun z hz => hb z (List.mem_of_mem_drop (List.mem_of_mem_take hz)))
    rw [ht]
    have hi : (evR b).ids = (b.drop 10).take (L - 8) := by unfold evR; rw [hL]
    rw [hi, show L + 2 = 2 + (8 + (L - 8)) by omega, List.take_add, List.take_add, List.drop_drop, List.append_assoc]
  have hs := of_decide_eq_true h2
  have hcl : (b.take (L + 6)).length = L + 6 := by rw [List.length_take]; omega
  rw [hcl, show L + 6 - 4 = L + 2 by omega, List.take_take, show min (L + 2) (L + 6) = L + 2 by omega] at hs
  unfold putR
  rw [if_pos (ids_wide hq.2 h3), List.nil_append]
  unfold recR
  rw [hbody, ← hs.2]
  have : b.take (L + 2) = (b.take (L + 6)).take (L + 2) := by rw [List.take_take, show min (L + 2) (L + 6) = L + 2 by omega]
  rw [this, List.take_append_drop]

/-! ### fronts, changed bytes, other numbers of names -/
theorem lenR_take {b : List Int} {k : Nat} (hk : 2 ≤ k) : lenR (b.take k) = lenR b := by
  unfold lenR
  rw [List.take_take, show min 2 k = 2 by omega]
theorem front_err {e : Ev} (hi : idsOk e.ids 64 = true) {k : Nat} (hk : k < (recR e).length) : errR ((recR e).take k) (propsR 64) = if k = 0 then 13 else 7 := by
  have hc : e.ids.length ≤ 64 := by have := ids_count hi; omega
  have hl : ((recR e).take k).length = k := by rw [List.length_take]; omega
  have hp : propsR 64 = 64 := by decide
  have hs : sizeE ((recR e).take k) 64 = if k = 0 then 13 else 7 := by
    unfold sizeE
    rw [hl]
    by_cases h0 : k = 0
    · rw [if_pos h0, if_pos h0]
    · rw [if_neg h0, if_neg h0]
      by_cases h1 : k = 1
      · rw [if_pos h1]
      · have hL : lenR ((recR e).take k) = 8 + e.ids.length := by
          rw [lenR_take (by omega)]
          unfold recR
          exact body_lenR hc _
        rw [rec_len] at hk
        rw [if_neg h1, hL, if_neg (by omega), if_pos (by omega)]
  unfold errR
  rw [hp, hs]
  split <;> rfl
theorem be4_inj {s t : Int} (h : be4 s = be4 t) : s = t := by
  simp only [be4, List.cons.injEq, and_true] at h
  obtain ⟨h1, h2, h3, h4⟩ := h
  omega
theorem lenR_set {b : List Int} {i : Nat} {y : Int} (hi : 2 ≤ i) : lenR (b.set i y) = lenR b := by
  unfold lenR
  rw [List.take_set_of_le hi]
theorem sum_told {l : List Int} {i : Nat} {y : Int} (hi : i < l.length) (hl : ∀ z ∈ l, 0 ≤ z ∧ z ≤ 255) (hy : 0 ≤ y ∧ y ≤ 255) (h : adn 1 (l.set i y) = adn 1 l) : y = l[i] := by
  have e1 : l.set i y = l.take i ++ y :: l.drop (i + 1) := List.set_eq_take_append_cons_drop ▸ by rw [if_pos hi]
  have e2 : l = l.take i ++ l[i] :: l.drop (i + 1) := by rw [List.getElem_cons_drop, List.take_append_drop]
  rw [e1, show adn 1 l = adn 1 (l.take i ++ l[i] :: l.drop (i + 1)) from by rw [← e2]] at h
  exact adn_changed 1 _ _ _ _ hy (hl _ (List.getElem_mem hi)) h
theorem changed_sealed {e : Ev} (hi : idsOk e.ids 64 = true) {i : Nat} (hn : i < (recR e).length) {y : Int} (hy : 0 ≤ y ∧ y ≤ 255) (hne : y ≠ (recR e)[i]?.getD 0) : sealedB ((recR e).set i y) = false := by
  refine decide_eq_false fun h => ?_
  have hl : ((recR e).set i y).length - 4 = (bodyR e).length := by rw [List.length_set, rec_len, body_len]; omega
  rw [hl] at h
  have hg : (recR e)[i]?.getD 0 = (recR e)[i] := by simp [List.getElem?_eq_getElem hn]
  rw [hg] at hne
  by_cases hb : i < (bodyR e).length
  · have e1 : (recR e).set i y = (bodyR e).set i y ++ be4 (adn 1 (bodyR e)) := by unfold recR; rw [List.set_append_left _ _ hb]
    have e3 : ((bodyR e).set i y).length = (bodyR e).length := List.length_set
    rw [e1, ← e3, List.drop_left, List.take_left] at h
    have h2 := be4_inj h.2
    have h3 := sum_told hb (body_bytes hi) hy h2.symm
    apply hne
    rw [h3]
    simp [recR, List.getElem_append_left hb]
  · have e1 : (recR e).set i y = bodyR e ++ (be4 (adn 1 (bodyR e))).set (i - (bodyR e).length) y := by unfold recR; rw [List.set_append_right _ _ (by omega)]
    rw [e1, List.drop_left, List.take_left] at h
    have hj : i - (bodyR e).length < (be4 (adn 1 (bodyR e))).length := by rw [rec_len] at hn; rw [body_len]; simp [be4]; omega
    have h2 := congrArg (fun l : List Int => l[i - (bodyR e).length]?) h.2
    simp only [List.getElem?_set_self hj, List.getElem?_eq_getElem hj, Option.some.injEq] at h2
    apply hne
    rw [h2]
    simp [recR, List.getElem_append_right (show (bodyR e).length ≤ i by omega)]
theorem changed_err {e : Ev} (hi : idsOk e.ids 64 = true) {i : Nat} (h2 : 2 ≤ i) (hn : i < (recR e).length) {y : Int} (hy : 0 ≤ y ∧ y ≤ 255) (hne : y ≠ (recR e)[i]?.getD 0) : errR ((recR e).set i y) (propsR 64) = 6 := by
  have hc : e.ids.length ≤ 64 := by have := ids_count hi; omega
  have hp : propsR 64 = 64 := by decide
  have hL : lenR ((recR e).set i y) = 8 + e.ids.length := by
    rw [lenR_set h2]
    unfold recR
    exact body_lenR hc _
  have hs : sizeE ((recR e).set i y) 64 = 0 := by
    unfold sizeE
    rw [List.length_set, rec_len, if_neg (by omega), if_neg (by omega), hL, if_neg (by omega), if_neg (by omega)]
  unfold errR
  rw [hp, hs, if_neg (by omega), hL, List.take_of_length_le (by rw [List.length_set, rec_len]; omega), changed_sealed hi hn hy hne]
  rfl
theorem few_err {e : Ev} (hi : idsOk e.ids 64 = true) {p : Int} (h0 : 0 ≤ p) (hp : p < e.ids.length) : errR (recR e) (propsR p) = 2 := by
  have hc : e.ids.length ≤ 64 := by have := ids_count hi; omega
  have hq : propsR p = p := by unfold propsR; omega
  have hL : lenR (recR e) = 8 + e.ids.length := by unfold recR; exact body_lenR hc _
  have hs : sizeE (recR e) p = 2 := by
    unfold sizeE
    rw [rec_len, if_neg (by omega), if_neg (by omega), hL, if_pos (by omega)]
  unfold errR
  rw [hq, hs]
  rfl
theorem last_err {e : Ev} (hi : idsOk e.ids 64 = true) (h0 : 0 ≤ e.time) (h1 : e.time ≤ 18446744073709551615) {p : Int} (hk : 0 < e.ids.length) (hl : e.ids.getD (e.ids.length - 1) 0 = p) (hp : (e.ids.length : Int) ≤ p) (hp2 : p < 64) : errR (recR e) (propsR p) = 9 := by
  have hc : e.ids.length ≤ 64 := by have := ids_count hi; omega
  have hq : propsR p = p := by unfold propsR; omega
  have hL : lenR (recR e) = 8 + e.ids.length := by unfold recR; exact body_lenR hc _
  have hE : evR (recR e) = e := by unfold recR; exact body_ev hc h0 h1 _
  have hs : sizeE (recR e) p = 0 := by
    unfold sizeE
    rw [rec_len, if_neg (by omega), if_neg (by omega), hL, if_neg (by omega), if_neg (by omega)]
  have hbad : idsOk e.ids p = false := ids_no (i := e.ids.length - 1) (by omega) (fun h => by have := h.2.1; omega)
  unfold errR
  rw [hq, hs, if_neg (by omega), hL, hE, List.take_of_length_le (by rw [rec_len]; omega), rec_sealed, hbad]
  rfl
end Go.Proofs.YtimbbfneaaglbaaGreat.Record

namespace Go.Proofs.YtimbbfneaaglbaaGreat.Log
open Go.Proofs.YtimbbfneaaglbaaGreat.Ints Go.Proofs.YtimbbfneaaglbaaGreat.SumMath Go.Proofs.YtimbbfneaaglbaaGreat.SumWalks Go.Proofs.YtimbbfneaaglbaaGreat.Trace Go.Proofs.YtimbbfneaaglbaaGreat.Record

/-- Records from a place on, behind a time and some events: the events, and what is wrong (13: nothing is). -/
def recsD (b : List Int) (props : Int) : Nat → Nat → Int → List Ev → List Ev × Nat
  | 0, _, _, es => (es, 13)
  | f + 1, p, last, es =>
    if errR (b.drop p) (propsR props) ≠ 0 then (es, errR (b.drop p) (propsR props))
    else if (evR (b.drop p)).time < last then (es, 8)
    else recsD b props f (p + (lenR (b.drop p) + 6)) (evR (b.drop p)).time (es ++ [evR (b.drop p)])
/-- The records of bytes without a fault: the trace, and the error behind it (13: none). -/
def recordsD (b : List Int) : Tr × Nat :=
  if (headD b 5).2.2 ≠ 0 then (noTr, (headD b 5).2.2)
  else (⟨(headD b 5).1, (recsD b (headD b 5).1.length (b.length + 1) (headD b 5).2.1 0 []).1⟩, (recsD b (headD b 5).1.length (b.length + 1) (headD b 5).2.1 0 []).2)
/-- What Decode tells. -/
def decT (b : List Int) : Tr := (recordsD b).1
def decE (b : List Int) : Nat := if (recordsD b).2 = 13 then 0 else (recordsD b).2
theorem recsD_err {b : List Int} {props last : Int} {p e : Nat} {es : List Ev} (f : Nat) (h : errR (b.drop p) (propsR props) = e) (he : e ≠ 0) : recsD b props (f + 1) p last es = (es, e) := by
  rw [recsD, h, if_pos he]
theorem recsD_time {b : List Int} {props last : Int} {p : Nat} {es : List Ev} (f : Nat) (h : errR (b.drop p) (propsR props) = 0) (h2 : (evR (b.drop p)).time < last) : recsD b props (f + 1) p last es = (es, 8) := by
  rw [recsD, h, if_neg (fun h => h rfl), if_pos h2]
theorem recsD_next {b : List Int} {props last : Int} {p : Nat} {es : List Ev} (f : Nat) (h : errR (b.drop p) (propsR props) = 0) (h2 : ¬ (evR (b.drop p)).time < last) :
    recsD b props (f + 1) p last es = recsD b props f (p + (lenR (b.drop p) + 6)) (evR (b.drop p)).time (es ++ [evR (b.drop p)]) := by
  rw [recsD, h, if_neg (fun h => h rfl), if_neg h2]
theorem get_ok {b : List Int} {p : Int} (h : errR b (propsR p) = 0) : getE b p = evR b ∧ getN b p = lenR b + 6 ∧ 14 ≤ lenR b + 6 ∧ lenR b + 6 ≤ b.length := by
  obtain ⟨h1, -, -⟩ := err_zero h
  obtain ⟨-, g2, -, g4⟩ := size_zero h1
  exact ⟨by unfold getE; rw [if_pos h], by unfold getN; rw [if_pos h], by omega, g4⟩
theorem ev_time {b : List Int} (hb : ∀ z ∈ b, 0 ≤ z ∧ z ≤ 255) : 0 ≤ (evR b).time ∧ (evR b).time ≤ 18446744073709551615 := by
  have := num_bd 8 ((b.drop 2).take 8) (by rw [List.length_take]; omega) (fun z hz => hb z (List.mem_of_mem_drop (List.mem_of_mem_take hz)))
  have e : (256 : Nat) ^ 8 = 18446744073709551616 := by decide
  unfold evR
  simp only
  omega
end Go.Proofs.YtimbbfneaaglbaaGreat.Log
