/-
  Traces as plain lists: what may be, what holds, beginnings, fronts, an event added. By an AI agent.
  Logs as plain lists of bytes: the header, what Encode writes. By an AI agent.
  A log's header as it is read, as plain lists. By an AI agent.
-/
import Derived.Test.YtimbbfneaaglbaaGHeadsApart5
import Derived.Test.YtimbbfneaaglbaaGHeadsApart2
import Derived.Test.YtimbbfneaaglbaaGHeadsApart6
import Derived.Test.YtimbbfneaaglbaaGHeadsApart4
namespace Go.Proofs.Ytimbbfneaaglbaa.Trace
open Go.Proofs.Ytimbbfneaaglbaa.Lex (nameS)

/-- The i-th name is one, and none of those before it. -/
def NameGood (l : List (List UInt8)) (i : Nat) : Prop := nameS (l.getD i []) = true ∧ l.getD i [] ∉ l.take i
instance (l : List (List UInt8)) (i : Nat) : Decidable (NameGood l i) := by unfold NameGood; infer_instance
def namesOk (l : List (List UInt8)) : Bool := decide (l.length ≤ 64 ∧ ∀ i, i < l.length → NameGood l i)
/-- The i-th event may be, behind the one before it. -/
def EvGood (l : List Ev) (props : Int) (i : Nat) : Prop := idsOk (l.getD i noEv).ids props = true ∧ (0 < i → (l.getD (i - 1) noEv).time ≤ (l.getD i noEv).time)
instance (l : List Ev) (props : Int) (i : Nat) : Decidable (EvGood l props i) := by unfold EvGood; infer_instance
def evsOk (l : List Ev) (props : Int) : Bool := decide (∀ i, i < l.length → EvGood l props i)
def mayT (t : Tr) : Bool := namesOk t.names && evsOk t.events t.names.length
def noTr : Tr := ⟨[], []⟩
def holdsT (t : Tr) (i : Int) (s : List UInt8) : Bool :=
  mayT t && (decide (0 ≤ i ∧ i < t.events.length) && (decide (s ∈ t.names) && decide (((t.names.idxOf s : Nat) : Int) ∈ (t.events.getD i.toNat noEv).ids)))
def cutT (t : Tr) (n : Int) : Tr := if mayT t then ⟨t.names, t.events.take n.toNat⟩ else noTr
def frontT (a b : Tr) : Bool := mayT a && (mayT b && (decide (a.names = b.names) && decide (a.events = b.events.take a.events.length)))
/-- The last event's time is greater. -/
def lateT (t : Tr) (e : Ev) : Bool := decide (0 < t.events.length ∧ e.time < (t.events.getD (t.events.length - 1) noEv).time)
/-- What Add tells: api's numbers of errors are handed in. -/
def addE (t : Tr) (e : Ev) : Nat := if mayT t then (if idsOk e.ids t.names.length then (if lateT t e then 8 else 0) else 9) else 1
def addT (t : Tr) (e : Ev) : Tr := if addE t e = 0 then ⟨t.names, t.events ++ [e]⟩ else noTr

/-- No row of it is long. -/
structure TrSmall (t : Tr) : Prop where
  names : t.names.length ≤ 1048576
  events : t.events.length ≤ 1048576
  ids : ∀ e ∈ t.events, e.ids.length ≤ 1048576
theorem TrSmall.none : TrSmall noTr := ⟨by decide, by decide, fun e h => by simp [noTr] at h⟩
theorem TrSmall.take {t : Tr} (h : TrSmall t) (k : Nat) : TrSmall ⟨t.names, t.events.take k⟩ :=
  ⟨h.1, by show (t.events.take k).length ≤ _; rw [List.length_take]; have := h.2; omega, fun e he => h.3 e (List.mem_of_mem_take he)⟩
theorem TrSmall.cut {t : Tr} (h : TrSmall t) (n : Int) : TrSmall (cutT t n) := by
  unfold cutT
  split
  · exact h.take _
  · exact TrSmall.none

/-! ### loops: so far, and no further -/
theorem names_yes {l : List (List UInt8)} (h64 : l.length ≤ 64) (h : ∀ i, i < l.length → NameGood l i) : namesOk l = true := decide_eq_true ⟨h64, h⟩
theorem names_no {l : List (List UInt8)} {i : Nat} (hi : i < l.length) (h : ¬ NameGood l i) : namesOk l = false := decide_eq_false fun e => h (e.2 i hi)
theorem names_long {l : List (List UInt8)} (h : 64 < l.length) : namesOk l = false := decide_eq_false fun e => by have := e.1; omega
theorem evs_yes {l : List Ev} {p : Int} (h : ∀ i, i < l.length → EvGood l p i) : evsOk l p = true := decide_eq_true h
theorem evs_no {l : List Ev} {p : Int} {i : Nat} (hi : i < l.length) (h : ¬ EvGood l p i) : evsOk l p = false := decide_eq_false fun e => h (e i hi)
theorem namesOk_iff (l : List (List UInt8)) : namesOk l = true ↔ l.length ≤ 64 ∧ ∀ i, i < l.length → NameGood l i := decide_eq_true_iff
theorem evsOk_iff (l : List Ev) (p : Int) : evsOk l p = true ↔ ∀ i, i < l.length → EvGood l p i := decide_eq_true_iff
theorem mayT_iff (t : Tr) : mayT t = true ↔ namesOk t.names = true ∧ evsOk t.events t.names.length = true := by unfold mayT; rw [Bool.and_eq_true]

/-! ### P8.3 -/
theorem evs_take {l : List Ev} {p : Int} (h : evsOk l p = true) (k : Nat) : evsOk (l.take k) p = true := by
  rw [evsOk_iff] at h ⊢
  intro i hi
  rw [List.length_take] at hi
  have := h i (by omega)
  unfold EvGood at this ⊢
  rw [getD_take _ _ _ _ (by omega), getD_take _ _ _ _ (by omega)]
  exact this
theorem cut_may (t : Tr) (n : Int) (h : mayT t = true) : mayT (cutT t n) = true := by
  unfold cutT
  rw [if_pos h]
  rw [mayT_iff] at h ⊢
  exact ⟨h.1, evs_take h.2 _⟩
theorem evs_snoc {l : List Ev} {p : Int} {e : Ev} (h : evsOk l p = true) (hi : idsOk e.ids p = true) (ht : 0 < l.length → (l.getD (l.length - 1) noEv).time ≤ e.time) : evsOk (l ++ [e]) p = true := by
  rw [evsOk_iff] at h ⊢
  intro i hl
  rw [List.length_append, List.length_singleton] at hl
  by_cases hlt : i < l.length
  · have := h i hlt
    unfold EvGood at this ⊢
    rw [getD_append_left _ _ _ _ hlt, getD_append_left _ _ _ _ (by omega)]
    exact this
  · have e1 : i = l.length := by omega
    subst e1
    have e2 : (l ++ [e]).getD l.length noEv = e := by simp [List.getD]
    unfold EvGood
    rw [e2]
    refine ⟨hi, fun h0 => ?_⟩
    rw [getD_append_left _ _ _ _ (by omega)]
    exact ht h0
theorem add_may (t : Tr) (e : Ev) (h : addE t e = 0) : mayT (addT t e) = true := by
  unfold addT
  rw [if_pos h]
  unfold addE at h
  by_cases hm : mayT t = true
  · rw [if_pos hm] at h
    by_cases hi : idsOk e.ids t.names.length = true
    · rw [if_pos hi] at h
      by_cases hl : lateT t e = true
      · rw [if_pos hl] at h
        omega
      · have hl' : lateT t e = false := by simpa using hl
        rw [mayT_iff] at hm ⊢
        refine ⟨hm.1, evs_snoc hm.2 hi fun h0 => ?_⟩
        have := of_decide_eq_false hl'
        omega
    · rw [if_neg hi] at h
      omega
  · rw [if_neg hm] at h
    omega
/-- A beginning of a trace that may be, with the next event. -/
theorem add_next {t : Tr} {k : Nat} (h : mayT t = true) (hk : k < t.events.length) : addE ⟨t.names, t.events.take k⟩ (t.events.getD k noEv) = 0 ∧ addT ⟨t.names, t.events.take k⟩ (t.events.getD k noEv) = ⟨t.names, t.events.take (k + 1)⟩ := by
  have hm := (mayT_iff t).1 h
  have hg := (evsOk_iff _ _).1 hm.2 k hk
  have h1 : mayT ⟨t.names, t.events.take k⟩ = true := (mayT_iff _).2 ⟨hm.1, evs_take hm.2 k⟩
  have h2 : lateT ⟨t.names, t.events.take k⟩ (t.events.getD k noEv) = false := by
    unfold lateT
    apply decide_eq_false
    rintro ⟨h0, hl⟩
    simp only at h0 hl
    have e : (t.events.take k).length = k := by rw [List.length_take]; omega
    rw [e] at h0 hl
    rw [getD_take _ _ _ _ (by omega)] at hl
    have := hg.2 h0
    omega
  have h3 : addE ⟨t.names, t.events.take k⟩ (t.events.getD k noEv) = 0 := by
    unfold addE
    rw [if_pos h1, if_pos hg.1, if_neg (by rw [h2]; simp)]
  refine ⟨h3, ?_⟩
  unfold addT
  rw [if_pos h3, List.take_succ_eq_append_getElem hk]
  simp [List.getD, hk]
end Go.Proofs.Ytimbbfneaaglbaa.Trace

namespace Go.Proofs.Ytimbbfneaaglbaa.Log
open Go.Proofs.Ytimbbfneaaglbaa.Ints Go.Proofs.Ytimbbfneaaglbaa.SumMath Go.Proofs.Ytimbbfneaaglbaa.SumWalks Go.Proofs.Ytimbbfneaaglbaa.Trace Go.Proofs.Ytimbbfneaaglbaa.Record
open Go.Proofs.Ytimbbfneaaglbaa.Lex (nameS)

/-- A text's bytes as numbers. -/
def toI (s : List UInt8) : List Int := s.map fun b => (b.toNat : Int)
/-- A name as it stands in a header. -/
def nameB (s : List UInt8) : List Int := ((s.length : Int) % 256) :: toI s
def frontL (names : List (List UInt8)) : List Int := [87, 71, 76, 1, (names.length : Int) % 256] ++ names.flatMap nameB
def headL (names : List (List UInt8)) : List Int := frontL names ++ be4 (adn 1 (frontL names))
/-- What Encode writes. -/
def encL (t : Tr) : List Int := if mayT t then headL t.names ++ t.events.flatMap recR else []

theorem toI_len (s : List UInt8) : (toI s).length = s.length := by simp [toI]
theorem toI_bytes (s : List UInt8) : ∀ z ∈ toI s, 0 ≤ z ∧ z ≤ 255 := by
  intro z hz
  obtain ⟨b, _, rfl⟩ := List.mem_map.1 hz
  have := b.toNat_lt
  omega
theorem nameB_len (s : List UInt8) : (nameB s).length = s.length + 1 := by simp [nameB, toI]
theorem nameB_bytes (s : List UInt8) : ∀ z ∈ nameB s, 0 ≤ z ∧ z ≤ 255 := by
  intro z hz
  rcases List.mem_cons.1 hz with rfl | h
  · omega
  · exact toI_bytes s z h
theorem flat_len {names : List (List UInt8)} {m : Nat} (h : ∀ s ∈ names, s.length ≤ m) : (names.flatMap nameB).length ≤ (m + 1) * names.length := by
  induction names with
  | nil => simp
  | cons s l ih =>
    rw [List.flatMap_cons, List.length_append, nameB_len, List.length_cons, Nat.mul_succ]
    have h1 := h s (List.mem_cons_self ..)
    have h2 := ih (fun x hx => h x (List.mem_cons_of_mem _ hx))
    omega
theorem flat_next (names : List (List UInt8)) (k : Nat) (hk : k < names.length) : (names.take (k + 1)).flatMap nameB = (names.take k).flatMap nameB ++ nameB (names.getD k []) := by
  rw [List.take_succ_eq_append_getElem hk, List.flatMap_append]
  simp [List.getD, hk]
theorem front_bytes (names : List (List UInt8)) : ∀ z ∈ frontL names, 0 ≤ z ∧ z ≤ 255 := by
  intro z hz
  rcases List.mem_append.1 hz with h | h
  · simp at h
    omega
  · obtain ⟨s, _, h2⟩ := List.mem_flatMap.1 h
    exact nameB_bytes s z h2
theorem head_bytes (names : List (List UInt8)) : ∀ z ∈ headL names, 0 ≤ z ∧ z ≤ 255 := by
  intro z hz
  rcases List.mem_append.1 hz with h | h
  · exact front_bytes names z h
  · exact be4_bytes (adn_bd 1 _) z h
theorem name_le {s : List UInt8} (h : nameS s = true) : 1 ≤ s.length ∧ s.length ≤ 16 := by
  cases s with
  | nil => simp [nameS] at h
  | cons c r =>
    simp only [nameS, Bool.and_eq_true, decide_eq_true_eq] at h
    rw [List.length_cons]
    omega
theorem names_le {l : List (List UInt8)} (h : namesOk l = true) : ∀ s ∈ l, 1 ≤ s.length ∧ s.length ≤ 16 := by
  intro s hs
  obtain ⟨i, hi, rfl⟩ := List.getElem_of_mem hs
  have := ((namesOk_iff l).1 h).2 i hi
  have e : l.getD i [] = l[i] := by simp [List.getD, hi]
  unfold NameGood at this
  rw [e] at this
  exact name_le this.1
end Go.Proofs.Ytimbbfneaaglbaa.Log

namespace Go.Proofs.Ytimbbfneaaglbaa.Log
open Go.Proofs.Ytimbbfneaaglbaa.Ints Go.Proofs.Ytimbbfneaaglbaa.SumMath Go.Proofs.Ytimbbfneaaglbaa.SumWalks Go.Proofs.Ytimbbfneaaglbaa.Trace Go.Proofs.Ytimbbfneaaglbaa.Record
open Go.Proofs.Ytimbbfneaaglbaa.Lex (nameS)

/-- Numbers as bytes. -/
def toU (l : List Int) : List UInt8 := l.map fun z => UInt8.ofNat z.toNat
def byteAt (b : List Int) (i : Nat) : Nat := (b[i]?.getD 0).toNat
/-- So many names, from a place on; behind those that were read: the names, the place behind them, what is wrong (0: nothing is). -/
def namesD (b : List Int) (miss : Nat) : Nat → Nat → List (List UInt8) → List (List UInt8) × Nat × Nat
  | 0, at_, acc => (acc, at_, 0)
  | k + 1, at_, acc =>
    if b.length ≤ at_ then ([], 0, miss)
    else if byteAt b at_ < 1 ∨ 16 < byteAt b at_ then ([], 0, 5)
    else if b.length < at_ + 1 + byteAt b at_ then ([], 0, miss)
    else if nameS (toU ((b.drop (at_ + 1)).take (byteAt b at_))) = false ∨ toU ((b.drop (at_ + 1)).take (byteAt b at_)) ∈ acc then ([], 0, 5)
    else namesD b miss k (at_ + 1 + byteAt b at_) (acc ++ [toU ((b.drop (at_ + 1)).take (byteAt b at_))])
def lastD (b : List Int) (miss : Nat) (r : List (List UInt8) × Nat × Nat) : List (List UInt8) × Nat × Nat :=
  if r.2.2 ≠ 0 then ([], 0, r.2.2)
  else if b.length < r.2.1 + 4 then ([], 0, miss)
  else if sealedB (b.take (r.2.1 + 4)) = false then ([], 0, 5)
  else (r.1, r.2.1 + 4, 0)
/-- The header at the beginning of bytes: its names, how many bytes it has, what is wrong. -/
def headD (b : List Int) (miss : Nat) : List (List UInt8) × Nat × Nat :=
  if b.length < 5 then ([], 0, miss)
  else if b.take 4 ≠ [87, 71, 76, 1] ∨ 64 < byteAt b 4 then ([], 0, 5)
  else lastD b miss (namesD b miss (byteAt b 4) 5 [])
theorem namesD_zero (b : List Int) (miss at_ : Nat) (acc : List (List UInt8)) : namesD b miss 0 at_ acc = (acc, at_, 0) := rfl
theorem namesD_end {b : List Int} {miss at_ : Nat} {acc : List (List UInt8)} (k : Nat) (h : b.length ≤ at_) : namesD b miss (k + 1) at_ acc = ([], 0, miss) := by
  rw [namesD, if_pos h]
theorem namesD_len {b : List Int} {miss at_ : Nat} {acc : List (List UInt8)} (k : Nat) (h : ¬ b.length ≤ at_) (h2 : byteAt b at_ < 1 ∨ 16 < byteAt b at_) : namesD b miss (k + 1) at_ acc = ([], 0, 5) := by
  rw [namesD, if_neg h, if_pos h2]
theorem namesD_short {b : List Int} {miss at_ : Nat} {acc : List (List UInt8)} (k : Nat) (h : ¬ b.length ≤ at_) (h2 : ¬ (byteAt b at_ < 1 ∨ 16 < byteAt b at_)) (h3 : b.length < at_ + 1 + byteAt b at_) : namesD b miss (k + 1) at_ acc = ([], 0, miss) := by
  rw [namesD, if_neg h, if_neg h2, if_pos h3]
theorem namesD_none {b : List Int} {miss at_ : Nat} {acc : List (List UInt8)} (k : Nat) (h : ¬ b.length ≤ at_) (h2 : ¬ (byteAt b at_ < 1 ∨ 16 < byteAt b at_)) (h3 : ¬ b.length < at_ + 1 + byteAt b at_) {s : List UInt8} (hs : toU ((b.drop (at_ + 1)).take (byteAt b at_)) = s)
    (h4 : nameS s = false ∨ s ∈ acc) : namesD b miss (k + 1) at_ acc = ([], 0, 5) := by
  rw [namesD, if_neg h, if_neg h2, if_neg h3, hs, if_pos h4]
theorem namesD_next {b : List Int} {miss at_ : Nat} {acc : List (List UInt8)} (k : Nat) (h : ¬ b.length ≤ at_) (h2 : ¬ (byteAt b at_ < 1 ∨ 16 < byteAt b at_)) (h3 : ¬ b.length < at_ + 1 + byteAt b at_) {s : List UInt8} (hs : toU ((b.drop (at_ + 1)).take (byteAt b at_)) = s)
    (h4 : nameS s = true) (h5 : s ∉ acc) : namesD b miss (k + 1) at_ acc = namesD b miss k (at_ + 1 + byteAt b at_) (acc ++ [s]) := by
  rw [namesD, if_neg h, if_neg h2, if_neg h3, hs, if_neg (by rintro (e | e); · rw [h4] at e; cases e
                                                             · exact h5 e)]
theorem byte_bd {b : List Int} (h : ∀ z ∈ b, 0 ≤ z ∧ z ≤ 255) (i : Nat) : byteAt b i ≤ 255 ∧ b[i]?.getD 0 = (byteAt b i : Int) := by
  unfold byteAt
  rcases hb : b[i]? with _ | z
  · simp
  · have := h z (List.mem_of_getElem? hb)
    simp
    omega
/-- What names that are read are. -/
theorem namesD_inv {b : List Int} {miss : Nat} (hm : miss ≠ 0) : ∀ (k p : Nat) (acc : List (List UInt8)), (∀ s ∈ acc, nameS s = true) → acc.Nodup →
    ((namesD b miss k p acc).2.2 = 0 → p ≤ (namesD b miss k p acc).2.1 ∧ (namesD b miss k p acc).1.length = acc.length + k ∧ (∀ s ∈ (namesD b miss k p acc).1, nameS s = true) ∧ (namesD b miss k p acc).1.Nodup) ∧
      ((namesD b miss k p acc).2.2 ≠ 0 → (namesD b miss k p acc).1 = []) := by
  intro k
  induction k with
  | zero => intro p acc h1 h2; exact ⟨fun _ => ⟨Nat.le_refl _, rfl, h1, h2⟩, fun h => absurd rfl h⟩
  | succ k ih =>
    intro p acc h1 h2
    by_cases e1 : b.length ≤ p
    · rw [namesD_end k e1]
      exact ⟨fun h => absurd h hm, fun _ => rfl⟩
    by_cases e2 : byteAt b p < 1 ∨ 16 < byteAt b p
    · rw [namesD_len k e1 e2]
      exact ⟨fun h => absurd h (by decide), fun _ => rfl⟩
    by_cases e3 : b.length < p + 1 + byteAt b p
    · rw [namesD_short k e1 e2 e3]
      exact ⟨fun h => absurd h hm, fun _ => rfl⟩
    obtain ⟨s, hs⟩ : ∃ s, toU ((b.drop (p + 1)).take (byteAt b p)) = s := ⟨_, rfl⟩
    by_cases e4 : nameS s = false ∨ s ∈ acc
    · rw [namesD_none k e1 e2 e3 hs e4]
      exact ⟨fun h => absurd h (by decide), fun _ => rfl⟩
    have e5 : nameS s = true := by
      rcases h : nameS s
      · exact absurd (Or.inl h) e4
      · rfl
    have e6 : s ∉ acc := fun h => e4 (Or.inr h)
    rw [namesD_next k e1 e2 e3 hs e5 e6]
    obtain ⟨i1, i2⟩ := ih (p + 1 + byteAt b p) (acc ++ [s]) (fun x hx => (List.mem_append.1 hx).elim (h1 x) (fun h => by rw [List.mem_singleton.1 h]; exact e5))
      (List.nodup_append.2 ⟨h2, by simp, fun x hx y hy => by rw [List.mem_singleton.1 hy]; exact fun e => e6 (e ▸ hx)⟩)
    refine ⟨fun h => ?_, i2⟩
    obtain ⟨j1, j2, j3, j4⟩ := i1 h
    refine ⟨by omega, ?_, j3, j4⟩
    rw [j2, List.length_append, List.length_singleton]
    omega
theorem headD_ok {b : List Int} {miss : Nat} (hm : miss ≠ 0) (h : (headD b miss).2.2 = 0) :
    5 ≤ b.length ∧ b.take 4 = [87, 71, 76, 1] ∧ byteAt b 4 ≤ 64 ∧ (namesD b miss (byteAt b 4) 5 []).2.2 = 0 ∧ (namesD b miss (byteAt b 4) 5 []).2.1 + 4 ≤ b.length ∧
      sealedB (b.take ((namesD b miss (byteAt b 4) 5 []).2.1 + 4)) = true ∧ headD b miss = ((namesD b miss (byteAt b 4) 5 []).1, (namesD b miss (byteAt b 4) 5 []).2.1 + 4, 0) := by
  unfold headD lastD at h ⊢
  split at h
  · exact absurd h hm
  · rename_i h1
    split at h
    · exact absurd h (by decide)
    · rename_i h2
      split at h
      · rename_i h3
        exact absurd h h3
      · rename_i h3
        split at h
        · exact absurd h hm
        · rename_i h4
          split at h
          · exact absurd h (by decide)
          · rename_i h5
            have g2 : b.take 4 = [87, 71, 76, 1] := by
              by_cases e : b.take 4 = [87, 71, 76, 1]
              · exact e
              · exact absurd (Or.inl e) h2
            refine ⟨by omega, g2, by omega, by omega, by omega, by simpa using h5, ?_⟩
            rw [if_neg h1, if_neg h2, if_neg h3, if_neg h4, if_neg h5]
/-- What a header's names are. -/
theorem headD_names {b : List Int} {miss : Nat} (hm : miss ≠ 0) (h : (headD b miss).2.2 = 0) : namesOk (headD b miss).1 = true := by
  obtain ⟨-, -, g3, g4, -, -, g7⟩ := headD_ok hm h
  obtain ⟨i1, -⟩ := namesD_inv (b := b) hm (byteAt b 4) 5 [] (fun s hs => by cases hs) List.nodup_nil
  obtain ⟨-, j2, j3, j4⟩ := i1 g4
  rw [g7, namesOk_iff]
  obtain ⟨l, hl⟩ : ∃ l, (namesD b miss (byteAt b 4) 5 []).1 = l := ⟨_, rfl⟩
  rw [hl] at j2 j3 j4
  show (namesD b miss (byteAt b 4) 5 []).1.length ≤ 64 ∧ ∀ i, i < (namesD b miss (byteAt b 4) 5 []).1.length → NameGood (namesD b miss (byteAt b 4) 5 []).1 i
  rw [hl]
  refine ⟨by rw [j2]; simp only [List.length_nil]; omega, fun i hi => ?_⟩
  have e : l.getD i [] = l[i] := by simp [List.getD, hi]
  unfold NameGood
  rw [e]
  refine ⟨j3 _ (List.getElem_mem hi), fun hin => ?_⟩
  obtain ⟨j, hj, hje⟩ := List.getElem_of_mem hin
  rw [List.length_take] at hj
  rw [List.getElem_take] at hje
  have := List.pairwise_iff_getElem.1 j4 j i (by omega) hi (by omega)
  exact this hje
theorem head_place {b : List Int} {miss : Nat} (hm : miss ≠ 0) (h : (headD b miss).2.2 = 0) : 9 ≤ (headD b miss).2.1 ∧ (headD b miss).2.1 ≤ b.length := by
  obtain ⟨-, -, -, g4, g5, -, g7⟩ := headD_ok hm h
  obtain ⟨i1, -⟩ := namesD_inv (b := b) hm (byteAt b 4) 5 [] (fun s hs => by cases hs) List.nodup_nil
  have := (i1 g4).1
  rw [g7]
  exact ⟨by show 9 ≤ _ + 4; omega, g5⟩
theorem head_bad {b : List Int} {miss : Nat} (h : (headD b miss).2.2 ≠ 0) : (headD b miss).1 = [] := by
  unfold headD lastD at h ⊢
  split
  · rfl
  · rename_i h1
    rw [if_neg h1] at h
    split
    · rfl
    · rename_i h2
      rw [if_neg h2] at h
      split
      · rfl
      · rename_i h3
        rw [if_neg h3] at h
        split
        · rfl
        · rename_i h4
          rw [if_neg h4] at h
          split
          · rfl
          · rename_i h5
            rw [if_neg h5] at h
            exact absurd rfl h
theorem head_names {b : List Int} {miss : Nat} (hm : miss ≠ 0) : (headD b miss).1.length ≤ 64 ∧ ∀ s ∈ (headD b miss).1, s.length ≤ 16 := by
  by_cases h : (headD b miss).2.2 = 0
  · have := headD_names hm h
    exact ⟨((namesOk_iff _).1 this).1, fun s hs => (names_le this s hs).2⟩
  · rw [head_bad h]
    exact ⟨by decide, fun s hs => by cases hs⟩
end Go.Proofs.Ytimbbfneaaglbaa.Log
