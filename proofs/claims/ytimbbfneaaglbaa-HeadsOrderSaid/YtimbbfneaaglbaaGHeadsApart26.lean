/-
  P10.4 as plain lists: a log cut off, a log with a byte of a record changed. By an AI agent.
  The law's Spoil: bytes with one of them another, some cut off, some besides. By an AI agent.
-/
import Derived.Test.YtimbbfneaaglbaaGHeadsApart21
import Derived.Test.YtimbbfneaaglbaaGHeadsApart16
import Derived.Test.YtimbbfneaaglbaaGHeadsApart15
import Derived.Test.YtimbbfneaaglbaaGHeadsApart7
namespace Go.Proofs.Ytimbbfneaaglbaa.Log
open Go.Proofs.Ytimbbfneaaglbaa.Ints Go.Proofs.Ytimbbfneaaglbaa.SumMath Go.Proofs.Ytimbbfneaaglbaa.SumWalks Go.Proofs.Ytimbbfneaaglbaa.Trace Go.Proofs.Ytimbbfneaaglbaa.Record
open Go.Proofs.Ytimbbfneaaglbaa.Lex (nameS)

theorem head_cut {names : List (List UInt8)} (h : namesOk names = true) {rest : List Int} (hr : ∀ z ∈ rest, 0 ≤ z ∧ z ≤ 255) {k : Nat} (hk : k < (headL names).length) : (headD ((headL names ++ rest).take k) 5).2.2 = 5 := by
  obtain ⟨b, hb⟩ : ∃ b, (headL names ++ rest).take k = b := ⟨_, rfl⟩
  have hB : ∀ z ∈ b, 0 ≤ z ∧ z ≤ 255 := by
    intro z hz
    rw [← hb] at hz
    rcases List.mem_append.1 (List.mem_of_mem_take hz) with h | h
    · exact head_bytes names z h
    · exact hr z h
  rw [hb]
  rcases head_err b with h0 | h5
  · exfalso
    obtain ⟨k1, k2⟩ := head_all hB (by decide) h0
    have k3 := (head_place (by decide) h0).2
    have k4 : headL names ++ rest = headL (headD b 5).1 ++ (b.drop (headD b 5).2.1 ++ (headL names ++ rest).drop k) := by
      rw [← List.append_assoc, ← k1, ← hb, List.take_append_drop]
    have k5 := head_enc h rest 5
    rw [k4, head_enc (headD_names (by decide) h0)] at k5
    have k6 : (headL (headD b 5).1).length = (headL names).length := congrArg (fun r => r.2.1) k5
    have k7 : b.length ≤ k := by rw [← hb, List.length_take]; omega
    omega
  · exact h5
theorem front_errp {e : Ev} {p : Int} (hp : 0 ≤ p ∧ p ≤ 64) (hi : idsOk e.ids p = true) {k : Nat} (hk : k < (recR e).length) : errR ((recR e).take k) (propsR p) = if k = 0 then 13 else 7 := by
  have hc0 := ids_count hi
  have hl : ((recR e).take k).length = k := by rw [List.length_take]; omega
  have hq : propsR p = p := by unfold propsR; omega
  have hs : sizeE ((recR e).take k) p = if k = 0 then 13 else 7 := by
    unfold sizeE
    rw [hl]
    by_cases h0 : k = 0
    · rw [if_pos h0, if_pos h0]
    · rw [if_neg h0, if_neg h0]
      by_cases h1 : k = 1
      · rw [if_pos h1]
      · have hL : lenR ((recR e).take k) = 8 + e.ids.length := by
          rw [lenR_take (by omega)]
          unfold recR
          exact body_lenR (by omega) _
        rw [rec_len] at hk
        rw [if_neg h1, hL, if_neg (by omega), if_pos (by omega)]
  unfold errR
  rw [hq, hs]
  split <;> rfl
/-- Of events that are cut off at a place: how many stand there whole, and where they end. -/
def wholeL (k : Nat) : Nat → List Ev → Nat × Nat
  | p, [] => (0, p)
  | p, e :: l => if k < p + 14 + e.ids.length then (0, p) else ((wholeL k (p + 14 + e.ids.length) l).1 + 1, (wholeL k (p + 14 + e.ids.length) l).2)
theorem recs_cut {b : List Int} {p : Int} {k : Nat} (hp : 0 ≤ p ∧ p ≤ 64) : ∀ (l : List Ev) (f : Nat) (pre : List Int) (last : Int) (es : List Ev), b = (pre ++ l.flatMap recR).take k → pre.length ≤ k → k ≤ (pre ++ l.flatMap recR).length → k < f + pre.length → (∀ e ∈ l, idsOk e.ids p = true) →
    (∀ e ∈ l, 0 ≤ e.time ∧ e.time ≤ 18446744073709551615) → Rise last l → recsD b p f pre.length last es = (es ++ l.take (wholeL k pre.length l).1, if (wholeL k pre.length l).2 = k then 13 else 7) := by
  intro l
  induction l with
  | nil =>
    intro f pre last es hb h1 h2 hf _ _ _
    obtain ⟨f, rfl⟩ : ∃ g, f = g + 1 := ⟨f - 1, by omega⟩
    have hk : k = pre.length := by simp at h2; omega
    have hd : b.drop pre.length = [] := List.drop_of_length_le (by rw [hb, List.length_take]; omega)
    have he : (wholeL k pre.length []).2 = k := hk.symm
    rw [if_pos he, List.take_nil, List.append_nil]
    refine recsD_err f ?_ (by decide)
    rw [hd]
    rfl
  | cons e l ih =>
    intro f pre last es hb h1 h2 hf hi ht hr
    obtain ⟨f, rfl⟩ : ∃ g, f = g + 1 := ⟨f - 1, by omega⟩
    have hie := hi e (List.mem_cons_self ..)
    have hd : b.drop pre.length = (recR e ++ l.flatMap recR).take (k - pre.length) := by
      rw [hb, List.drop_take, List.drop_left, List.flatMap_cons]
    by_cases hc : k < pre.length + 14 + e.ids.length
    · have hw : wholeL k pre.length (e :: l) = (0, pre.length) := by rw [wholeL, if_pos hc]
      have hl : k - pre.length < (recR e).length := by rw [rec_len]; omega
      rw [hw, List.take_zero, List.append_nil]
      have he := front_errp hp hie hl
      rw [List.take_append_of_le_length (by omega)] at hd
      rw [← hd] at he
      show _ = (es, if pre.length = k then 13 else 7)
      by_cases h0 : k - pre.length = 0
      · rw [if_pos h0] at he
        rw [if_pos (by omega), recsD_err f he (by decide)]
      · rw [if_neg h0] at he
        rw [if_neg (by omega), recsD_err f he (by decide)]
    · have hw : wholeL k pre.length (e :: l) = ((wholeL k (pre.length + 14 + e.ids.length) l).1 + 1, (wholeL k (pre.length + 14 + e.ids.length) l).2) := by rw [wholeL, if_neg hc]
      have hd2 : b.drop pre.length = recR e ++ (l.flatMap recR).take (k - pre.length - (recR e).length) := by
        rw [hd, List.take_append, List.take_of_length_le (by rw [rec_len]; omega)]
      have h3 := ht e (List.mem_cons_self ..)
      obtain ⟨g1, g2, g3⟩ := rec_get hp hie h3.1 h3.2 ((l.flatMap recR).take (k - pre.length - (recR e).length))
      have hlt : ¬ e.time < last := by have := hr.1; omega
      rw [recsD_next f (by rw [hd2]; exact g1) (by rw [hd2, g2]; exact hlt), hd2, g2, g3, hw]
      have h4 := ih f (pre ++ recR e) e.time (es ++ [e]) (by rw [hb]; simp) (by rw [List.length_append, rec_len]; omega) (by rw [List.append_assoc, ← List.flatMap_cons]; exact h2) (by rw [List.length_append, rec_len]; omega)
        (fun x hx => hi x (List.mem_cons_of_mem _ hx)) (fun x hx => ht x (List.mem_cons_of_mem _ hx)) hr.2
      rw [List.length_append, rec_len, ← Nat.add_assoc] at h4
      rw [show pre.length + (8 + e.ids.length + 6) = pre.length + 14 + e.ids.length by omega, h4]
      simp
theorem recs_bytes {l : List Ev} {p : Int} (hp : p ≤ 64) (h : ∀ e ∈ l, idsOk e.ids p = true) : ∀ z ∈ l.flatMap recR, 0 ≤ z ∧ z ≤ 255 := by
  intro z hz
  obtain ⟨e, he, hz⟩ := List.mem_flatMap.1 hz
  exact rec_bytes (ids_wide hp (h e he)) z hz
/-- A log that is cut off in its header. -/
theorem cut_head {t : Tr} (h : mayT t = true) {k : Nat} (hk : k < (headL t.names).length) : recordsD ((encL t).take k) = (noTr, 5) := by
  obtain ⟨h1, h2⟩ := (mayT_iff t).1 h
  have h64 := ((namesOk_iff _).1 h1).1
  have he : encL t = headL t.names ++ t.events.flatMap recR := by unfold encL; rw [if_pos h]
  have := head_cut h1 (rest := t.events.flatMap recR) (recs_bytes (p := t.names.length) (by omega) (evs_ids h2)) hk
  rw [he]
  unfold recordsD
  rw [this, if_pos (by decide)]
/-- A log that is cut off behind its header. -/
theorem cut_recs {t : Tr} (h : mayT t = true) (ht : ∀ e ∈ t.events, 0 ≤ e.time ∧ e.time ≤ 18446744073709551615) {k : Nat} (h0 : (headL t.names).length ≤ k) (hk : k ≤ (encL t).length) :
    recordsD ((encL t).take k) = (⟨t.names, t.events.take (wholeL k (headL t.names).length t.events).1⟩, if (wholeL k (headL t.names).length t.events).2 = k then 13 else 7) := by
  obtain ⟨h1, h2⟩ := (mayT_iff t).1 h
  have h64 := ((namesOk_iff _).1 h1).1
  have he : encL t = headL t.names ++ t.events.flatMap recR := by unfold encL; rw [if_pos h]
  rw [he] at hk ⊢
  obtain ⟨b, hb⟩ : ∃ b, (headL t.names ++ t.events.flatMap recR).take k = b := ⟨_, rfl⟩
  have hb2 : b = headL t.names ++ (t.events.flatMap recR).take (k - (headL t.names).length) := by rw [← hb, List.take_append, List.take_of_length_le h0]
  have hd : headD b 5 = (t.names, (headL t.names).length, 0) := by rw [hb2]; exact head_enc h1 _ 5
  have hr := rise_of t.events 0 h2 fun e he => (ht e (List.mem_of_head? he)).1
  have hq := recs_cut (b := b) (p := (t.names.length : Int)) ⟨by omega, by omega⟩ t.events (b.length + 1) (headL t.names) 0 [] hb.symm h0 hk (by rw [← hb, List.length_take]; omega) (evs_ids h2) ht hr
  rw [hb]
  unfold recordsD
  rw [hd]
  simp only
  rw [if_neg (by simp), hq]
  rfl
/-! ### a byte of a record changed -/
def lastT : Int → List Ev → Int
  | t, [] => t
  | _, e :: l => lastT e.time l
/-- Over records that are right. -/
theorem recs_over {b : List Int} {p : Int} (hp : 0 ≤ p ∧ p ≤ 64) : ∀ (l : List Ev) (f : Nat) (pre rest : List Int) (last : Int) (es : List Ev), b = pre ++ (l.flatMap recR ++ rest) → (∀ e ∈ l, idsOk e.ids p = true) →
    (∀ e ∈ l, 0 ≤ e.time ∧ e.time ≤ 18446744073709551615) → Rise last l → recsD b p (f + l.length) pre.length last es = recsD b p f (pre.length + (l.flatMap recR).length) (lastT last l) (es ++ l) := by
  intro l
  induction l with
  | nil => intro f pre rest last es _ _ _ _; simp [lastT]
  | cons e l ih =>
    intro f pre rest last es hb hi ht hr
    have hd : b.drop pre.length = recR e ++ (l.flatMap recR ++ rest) := by rw [hb, List.drop_left, List.flatMap_cons, List.append_assoc]
    have h1 := ht e (List.mem_cons_self ..)
    obtain ⟨g1, g2, g3⟩ := rec_get hp (hi e (List.mem_cons_self ..)) h1.1 h1.2 (l.flatMap recR ++ rest)
    have hlt : ¬ e.time < last := by have := hr.1; omega
    rw [List.length_cons, ← Nat.add_assoc, recsD_next (f + l.length) (by rw [hd]; exact g1) (by rw [hd, g2]; exact hlt), hd, g2, g3]
    have h3 := ih f (pre ++ recR e) rest e.time (es ++ [e]) (by rw [hb]; simp) (fun x hx => hi x (List.mem_cons_of_mem _ hx)) (fun x hx => ht x (List.mem_cons_of_mem _ hx)) hr.2
    rw [List.length_append, rec_len] at h3
    rw [show pre.length + (8 + e.ids.length + 6) = pre.length + (14 + e.ids.length) by omega, h3, List.flatMap_cons, List.length_append, rec_len, lastT]
    rw [show es ++ [e] ++ l = es ++ e :: l by simp, show pre.length + (14 + e.ids.length) + (l.flatMap recR).length = pre.length + (14 + e.ids.length + (l.flatMap recR).length) by omega]
theorem changed_errp {e : Ev} {p : Int} (hp : 0 ≤ p ∧ p ≤ 64) (hi : idsOk e.ids p = true) {i : Nat} (h2 : 2 ≤ i) (hn : i < (recR e).length) {y : Int} (hy : 0 ≤ y ∧ y ≤ 255) (hne : y ≠ (recR e)[i]?.getD 0) (rest : List Int) : errR ((recR e).set i y ++ rest) (propsR p) = 6 := by
  have hc0 := ids_count hi
  have hq : propsR p = p := by unfold propsR; omega
  have hl : ((recR e).set i y).length = 14 + e.ids.length := by rw [List.length_set, rec_len]
  have hL : lenR ((recR e).set i y ++ rest) = 8 + e.ids.length := by
    have h3 : lenR ((recR e).set i y ++ rest) = lenR ((recR e).set i y) := by
      unfold lenR
      rw [List.take_append_of_le_length (by omega)]
    rw [h3, lenR_set h2]
    unfold recR
    exact body_lenR (by omega) _
  have hs : sizeE ((recR e).set i y ++ rest) p = 0 := by
    unfold sizeE
    rw [List.length_append, hl, if_neg (by omega), if_neg (by omega), hL, if_neg (by omega), if_neg (by omega)]
  unfold errR
  rw [hq, hs, if_neg (by omega), hL, List.take_append_of_le_length (by omega), List.take_of_length_le (by omega), changed_sealed (ids_wide hp.2 hi) hn hy hne]
  rfl
/-- A byte of a record changed, behind its length: all events ahead of it are told, and no other. -/
theorem tell_recs {t : Tr} (h : mayT t = true) (ht : ∀ e ∈ t.events, 0 ≤ e.time ∧ e.time ≤ 18446744073709551615) {k j : Nat} (hk : k < t.events.length) (hj : j < 12 + (t.events.getD k noEv).ids.length) {y : Int} (hy : 0 ≤ y ∧ y ≤ 255)
    {i : Nat} (hi : i = (headL t.names).length + ((t.events.take k).flatMap recR).length + 2 + j) (hne : y ≠ (encL t)[i]?.getD 0) :
    i < (encL t).length ∧ recordsD ((encL t).set i y) = (⟨t.names, t.events.take k⟩, 6) := by
  obtain ⟨h1, h2⟩ := (mayT_iff t).1 h
  have h64 := ((namesOk_iff _).1 h1).1
  have he : encL t = headL t.names ++ t.events.flatMap recR := by unfold encL; rw [if_pos h]
  have e2 : t.events.getD k noEv = t.events[k] := by simp [List.getD, hk]
  rw [e2] at hj
  have hsp : t.events = t.events.take k ++ t.events[k] :: t.events.drop (k + 1) := by rw [List.getElem_cons_drop, List.take_append_drop]
  obtain ⟨E, hE⟩ : ∃ E, t.events[k] = E := ⟨_, rfl⟩
  obtain ⟨L, hL⟩ : ∃ L, t.events.take k = L := ⟨_, rfl⟩
  obtain ⟨R, hR⟩ : ∃ R, t.events.drop (k + 1) = R := ⟨_, rfl⟩
  have hmem : E ∈ t.events := hE ▸ List.getElem_mem hk
  have hsub : ∀ x ∈ L, x ∈ t.events := fun x hx => List.mem_of_mem_take (hL ▸ hx)
  have hids := evs_ids h2
  have hr : Rise 0 L := by
    have := evs_take h2 k
    rw [hL] at this
    exact rise_of L 0 this fun e he => (ht e (hsub e (List.mem_of_head? he))).1
  rw [hE, hL, hR] at hsp
  rw [hE] at hj
  rw [hL] at hi ⊢
  have hb : encL t = headL t.names ++ (L.flatMap recR ++ (recR E ++ R.flatMap recR)) := by rw [he, hsp]; simp
  have hl := rec_len E
  have hq : i = (headL t.names ++ L.flatMap recR).length + (2 + j) := by rw [List.length_append]; omega
  have hset : (encL t).set i y = headL t.names ++ (L.flatMap recR ++ ((recR E).set (2 + j) y ++ R.flatMap recR)) := by
    rw [hb, ← List.append_assoc, hq, List.set_append_right _ _ (by omega), show (headL t.names ++ L.flatMap recR).length + (2 + j) - (headL t.names ++ L.flatMap recR).length = 2 + j by omega,
      List.set_append_left _ _ (by omega), List.append_assoc]
  have hne2 : y ≠ (recR E)[2 + j]?.getD 0 := by
    rw [hb, ← List.append_assoc, hq, List.getElem?_append_right (by omega), show (headL t.names ++ L.flatMap recR).length + (2 + j) - (headL t.names ++ L.flatMap recR).length = 2 + j by omega,
      List.getElem?_append_left (by omega)] at hne
    exact hne
  refine ⟨by rw [hb]; simp only [List.length_append]; omega, ?_⟩
  obtain ⟨c, hc⟩ : ∃ c, (encL t).set i y = c := ⟨_, rfl⟩
  rw [hc] at hset
  have hd : headD c 5 = (t.names, (headL t.names).length, 0) := by rw [hset]; exact head_enc h1 _ 5
  have hcl : c.length = (headL t.names).length + ((L.flatMap recR).length + (14 + E.ids.length + (R.flatMap recR).length)) := by
    rw [hset]
    simp only [List.length_append, List.length_set, hl]
  have hL2 := flat_count L
  have ho := recs_over (b := c) (p := (t.names.length : Int)) ⟨by omega, by omega⟩ L (c.length - L.length + 1) (headL t.names) ((recR E).set (2 + j) y ++ R.flatMap recR) 0 [] hset (fun x hx => hids x (hsub x hx)) (fun x hx => ht x (hsub x hx)) hr
  have herr : errR (c.drop ((headL t.names).length + (L.flatMap recR).length)) (propsR (t.names.length : Int)) = 6 := by
    rw [hset, ← List.append_assoc, ← List.length_append, List.drop_left]
    exact changed_errp ⟨by omega, by omega⟩ (hids E hmem) (by omega) (by omega) hy hne2 _
  rw [recsD_err _ herr (by decide), show c.length - L.length + 1 + L.length = c.length + 1 by omega] at ho
  rw [hc]
  unfold recordsD
  rw [hd]
  simp only
  rw [if_neg (by simp), ho]
  rfl
end Go.Proofs.Ytimbbfneaaglbaa.Log

namespace Go.Proofs.Ytimbbfneaaglbaa.Log
open Go.RowKit Go.Proofs.Ytimbbfneaaglbaa.Ints Go.Proofs.Ytimbbfneaaglbaa.Mem Go.Proofs.Ytimbbfneaaglbaa.SumMath Go.Proofs.Ytimbbfneaaglbaa.SumWalks Go.Proofs.Ytimbbfneaaglbaa.Trace Go.Proofs.Ytimbbfneaaglbaa.Record

theorem row_take {w : World} {base : Nat} {e : TypeId} {size : Nat} {A : Option Addr} {n c k : Nat} {xs ys : List Value} (h : w.ownsRow base e size (.slice A n c) n xs) (hk : k ≤ n) (hy : ys = xs.take (k * size)) : w.ownsRow base e size (.slice A k c) k ys := by
  subst hy
  obtain ⟨h1, h2⟩ := h
  have hle : k * size ≤ n * size := Nat.mul_le_mul_right _ hk
  refine ⟨by rw [List.length_take, h1]; omega, ?_⟩
  rcases h2 with ⟨h3, h4⟩ | ⟨g, cap, cur, h3, h4, h5, h6, h7, h8, h9⟩
  · have h3 : (A = none ∧ n = 0 ∧ c = 0) := by injection h3 with a b d; exact ⟨a, b, d⟩
    obtain ⟨rfl, rfl, rfl⟩ := h3
    have : k = 0 := by omega
    subst this
    exact Or.inl ⟨rfl, rfl⟩
  · injection h3 with a b d
    subst a; subst d
    refine Or.inr ⟨g, c, cur, rfl, h4, h5, by omega, h7, h8, ?_⟩
    rw [← h9, List.take_take, Nat.min_eq_left hle]
/-- Bytes with one of them another, some cut off. -/
def cutS (b : List Int) (p q x : Nat) : List Int :=
  if b.length = 0 then [] else (b.set (p % b.length) (bits .xor .u8 (b[p % b.length]?.getD 0) (x : Int))).take (b.length - q % b.length)
end Go.Proofs.Ytimbbfneaaglbaa.Log
