/-
  P9.3 as plain lists: Get of Put is the event; what is got is what Put writes; fronts, changed bytes, other numbers of names. By an AI agent.
  A log's records as they are read, as plain lists. By an AI agent.
-/
import Derived.Test.YtimbbfneaaglbaaGHeadsApart4
import Derived.Test.YtimbbfneaaglbaaGHeadsApart7
namespace Go.Proofs.Ytimbbfneaaglbaa.Record
open Go.Proofs.Ytimbbfneaaglbaa.Ints Go.Proofs.Ytimbbfneaaglbaa.SumMath Go.Proofs.Ytimbbfneaaglbaa.SumWalks Go.Proofs.Ytimbbfneaaglbaa.Trace

theorem body_front (e : Ev) (t : List Int) : (bodyR e ++ t).take 2 = be2 (8 + (e.ids.length : Int)) ∧ ((bodyR e ++ t).drop 2).take 8 = be8 e.time ∧ (bodyR e ++ t).drop 10 = e.ids ++ t := by
  simp [bodyR, be2, be8]
theorem body_lenR {e : Ev} (h : e.ids.length ≤ 64) (t : List Int) : lenR (bodyR e ++ t) = 8 + e.ids.length := by
  unfold lenR
  rw [(body_front e t).1, num_be2 (by omega) (by omega)]
  omega
theorem body_ev {e : Ev} (h : e.ids.length ≤ 64) (h0 : 0 ≤ e.time) (h1 : e.time ≤ 18446744073709551615) (t : List Int) : evR (bodyR e ++ t) = e := by
  unfold evR
  rw [body_lenR h t, (body_front e t).2.1, (body_front e t).2.2, num_be8 h0 h1, show 8 + e.ids.length - 8 = e.ids.length by omega, List.take_left]
theorem rec_sealed (e : Ev) : sealedB (recR e) = true := by
  unfold sealedB
  rw [rec_len, show 14 + e.ids.length - 4 = (bodyR e).length by rw [body_len]; omega]
  refine decide_eq_true ⟨by omega, ?_⟩
  unfold recR
  rw [List.drop_left, List.take_left]
/-- Get of what Put has written, whatever stands behind it. -/
theorem get_put {e : Ev} (hi : idsOk e.ids 64 = true) (h0 : 0 ≤ e.time) (h1 : e.time ≤ 18446744073709551615) (rest : List Int) :
    errR (recR e ++ rest) (propsR 64) = 0 ∧ getE (recR e ++ rest) 64 = e ∧ getN (recR e ++ rest) 64 = 14 + e.ids.length := by
  have hc : e.ids.length ≤ 64 := by have := ids_count hi; omega
  have hf : recR e ++ rest = bodyR e ++ (be4 (adn 1 (bodyR e)) ++ rest) := by unfold recR; rw [List.append_assoc]
  have hL : lenR (recR e ++ rest) = 8 + e.ids.length := by rw [hf]; exact body_lenR hc _
  have hE : evR (recR e ++ rest) = e := by rw [hf]; exact body_ev hc h0 h1 _
  have hp : propsR 64 = 64 := by decide
  have herr : errR (recR e ++ rest) (propsR 64) = 0 := by
    have hs : sizeE (recR e ++ rest) 64 = 0 := by
      unfold sizeE
      rw [List.length_append, rec_len, if_neg (by omega), if_neg (by omega), hL, if_neg (by omega), if_neg (by omega)]
    unfold errR
    rw [hp, if_neg (by omega), hL, hE, show 8 + e.ids.length + 6 = (recR e).length by rw [rec_len]; omega, List.take_left, rec_sealed, hi]
    rfl
  refine ⟨herr, by unfold getE; rw [if_pos herr, hE], ?_⟩
  unfold getN
  rw [if_pos herr, hL]
  omega

theorem eight {l : List Int} (h : l.length = 8) : ∃ a b c d e f g k, l = [a, b, c, d, e, f, g, k] := by
  match l, h with
  | [a, b, c, d, e, f, g, k], _ => exact ⟨a, b, c, d, e, f, g, k, rfl⟩
theorem be8_num {l : List Int} (h : l.length = 8) (hb : ∀ z ∈ l, 0 ≤ z ∧ z ≤ 255) : be8 (numR l) = l := by
  obtain ⟨a, b, c, d, e, f, g, k, rfl⟩ := eight h
  exact num8 (hb a (by simp)) (hb b (by simp)) (hb c (by simp)) (hb d (by simp)) (hb e (by simp)) (hb f (by simp)) (hb g (by simp)) (hb k (by simp))
theorem be2_num {l : List Int} (h : l.length = 2) (hb : ∀ z ∈ l, 0 ≤ z ∧ z ≤ 255) : be2 (numR l) = l := by
  match l, h with
  | [a, b], _ => exact num2 (hb a (by simp)) (hb b (by simp))
theorem ids_wide {l : List Int} {p : Int} (hp : p ≤ 64) (h : idsOk l p = true) : idsOk l 64 = true := by
  rw [idsOk_iff] at h ⊢
  intro i hi
  have := h i hi
  unfold IdGood at this ⊢
  exact ⟨this.1, by omega, this.2.2⟩
theorem err_zero {b : List Int} {q : Int} (h : errR b q = 0) : sizeE b q = 0 ∧ sealedB (b.take (lenR b + 6)) = true ∧ idsOk (evR b).ids q = true := by
  unfold errR at h
  split at h
  · omega
  · rename_i h0
    split at h
    · omega
    · rename_i h1
      split at h
      · omega
      · rename_i h2
        exact ⟨by omega, by simpa using h1, by simpa using h2⟩
theorem size_zero {b : List Int} {q : Int} (h : sizeE b q = 0) : 2 ≤ b.length ∧ 8 ≤ lenR b ∧ (lenR b : Int) ≤ 8 + q ∧ lenR b + 6 ≤ b.length := by
  unfold sizeE at h
  split at h
  · omega
  · split at h
    · omega
    · split at h
      · omega
      · split at h
        · omega
        · omega
/-- What is got is what Put writes. -/
theorem put_get {b : List Int} {p : Int} (hb : ∀ z ∈ b, 0 ≤ z ∧ z ≤ 255) (h : errR b (propsR p) = 0) :
    getN b p ≤ b.length ∧ putR [] (getE b p) = b.take (getN b p) := by
  obtain ⟨h1, h2, h3⟩ := err_zero h
  obtain ⟨g1, g2, g3, g4⟩ := size_zero h1
  have hq := props_bd p
  have hE : getE b p = evR b := by unfold getE; rw [if_pos h]
  have hN : getN b p = lenR b + 6 := by unfold getN; rw [if_pos h]
  rw [hE, hN]
  refine ⟨g4, ?_⟩
  obtain ⟨L, hL⟩ : ∃ L, lenR b = L := ⟨_, rfl⟩
  have hnum : (L : Int) = numR (b.take 2) := by
    have := (num_bd 2 (b.take 2) (by rw [List.length_take]; omega) (fun z hz => hb z (List.mem_of_mem_take hz))).1
    rw [← hL]; unfold lenR; omega
  rw [hL] at h2 g2 g3 g4 ⊢
  have hlen : (evR b).ids.length = L - 8 := by
    unfold evR
    rw [hL]
    show ((b.drop 10).take (L - 8)).length = _
    rw [List.length_take, List.length_drop]
    omega
  have hbody : bodyR (evR b) = b.take (L + 2) := by
    unfold bodyR
    rw [hlen, show (8 : Int) + ((L - 8 : Nat) : Int) = (L : Int) by omega, hnum, be2_num (by rw [List.length_take]; omega) (fun z hz => hb z (List.mem_of_mem_take hz))]
    have ht : be8 (evR b).time = (b.drop 2).take 8 := be8_num (by rw [List.length_take, List.length_drop]; omega) (fun z hz => hb z (List.mem_of_mem_drop (List.mem_of_mem_take hz)))
    rw [ht]
    have hi : (evR b).ids = (b.drop 10).take (L - 8) := by unfold evR; rw [hL]
    rw [hi, show L + 2 = 2 + (8 + (L - 8)) by omega, List.take_add, List.take_add, List.drop_drop, List.append_assoc]
  have hs := of_decide_eq_true h2
  have hcl : (b.take (L + 6)).length = L + 6 := by rw [List.length_take]; omega
  rw [hcl, show L + 6 - 4 = L + 2 by omega, List.take_take, show min (L + 2) (L + 6) = L + 2 by omega] at hs
  unfold putR
  rw [if_pos (ids_wide hq.2 h3), List.nil_append]
  unfold recR
  rw [hbody, ← hs.2]
  have : b.take (L + 2) = (b.take (L + 6)).take (L + 2) := by rw [List.take_take, show min (L + 2) (L + 6) = L + 2 by omega]
  rw [this, List.take_append_drop]

/-! ### fronts, changed bytes, other numbers of names -/
theorem lenR_take {b : List Int} {k : Nat} (hk : 2 ≤ k) : lenR (b.take k) = lenR b := by
  unfold lenR
  rw [List.take_take, show min 2 k = 2 by omega]
theorem front_err {e : Ev} (hi : idsOk e.ids 64 = true) {k : Nat} (hk : k < (recR e).length) : errR ((recR e).take k) (propsR 64) = if k = 0 then 13 else 7 := by
  have hc : e.ids.length ≤ 64 := by have := ids_count hi; omega
  have hl : ((recR e).take k).length = k := by rw [List.length_take]; omega
  have hp : propsR 64 = 64 := by decide
  have hs : sizeE ((recR e).take k) 64 = if k = 0 then 13 else 7 := by
    unfold sizeE
    rw [hl]
    by_cases h0 : k = 0
    · rw [if_pos h0, if_pos h0]
    · rw [if_neg h0, if_neg h0]
      by_cases h1 : k = 1
      · rw [if_pos h1]
      · have hL : lenR ((recR e).take k) = 8 + e.ids.length := by
          rw [lenR_take (by omega)]
          unfold recR
          exact body_lenR hc _
        rw [rec_len] at hk
        rw [if_neg h1, hL, if_neg (by omega), if_pos (by omega)]
  unfold errR
  rw [hp, hs]
  split <;> rfl
theorem be4_inj {s t : Int} (h : be4 s = be4 t) : s = t := by
  simp only [be4, List.cons.injEq, and_true] at h
  obtain ⟨h1, h2, h3, h4⟩ := h
  omega
theorem lenR_set {b : List Int} {i : Nat} {y : Int} (hi : 2 ≤ i) : lenR (b.set i y) = lenR b := by
  unfold lenR
  rw [List.take_set_of_le hi]
theorem sum_told {l : List Int} {i : Nat} {y : Int} (hi : i < l.length) (hl : ∀ z ∈ l, 0 ≤ z ∧ z ≤ 255) (hy : 0 ≤ y ∧ y ≤ 255) (h : adn 1 (l.set i y) = adn 1 l) : y = l[i] := by
  have e1 : l.set i y = l.take i ++ y :: l.drop (i + 1) := List.set_eq_take_append_cons_drop ▸ by rw [if_pos hi]
  have e2 : l = l.take i ++ l[i] :: l.drop (i + 1) := by rw [List.getElem_cons_drop, List.take_append_drop]
  rw [e1, show adn 1 l = adn 1 (l.take i ++ l[i] :: l.drop (i + 1)) from by rw [← e2]] at h
  exact adn_changed 1 _ _ _ _ hy (hl _ (List.getElem_mem hi)) h
theorem changed_sealed {e : Ev} (hi : idsOk e.ids 64 = true) {i : Nat} (hn : i < (recR e).length) {y : Int} (hy : 0 ≤ y ∧ y ≤ 255) (hne : y ≠ (recR e)[i]?.getD 0) : sealedB ((recR e).set i y) = false := by
  refine decide_eq_false fun h => ?_
  have hl : ((recR e).set i y).length - 4 = (bodyR e).length := by rw [List.length_set, rec_len, body_len]; omega
  rw [hl] at h
  have hg : (recR e)[i]?.getD 0 = (recR e)[i] := by simp [List.getElem?_eq_getElem hn]
  rw [hg] at hne
  by_cases hb : i < (bodyR e).length
  · have e1 : (recR e).set i y = (bodyR e).set i y ++ be4 (adn 1 (bodyR e)) := by unfold recR; rw [List.set_append_left _ _ hb]
    have e3 : ((bodyR e).set i y).length = (bodyR e).length := List.length_set
    rw [e1, ← e3, List.drop_left, List.take_left] at h
    have h2 := be4_inj h.2
    have h3 := sum_told hb (body_bytes hi) hy h2.symm
    apply hne
    rw [h3]
    simp [recR, List.getElem_append_left hb]
  · have e1 : (recR e).set i y = bodyR e ++ (be4 (adn 1 (bodyR e))).set (i - (bodyR e).length) y := by unfold recR; rw [List.set_append_right _ _ (by omega)]
    rw [e1, List.drop_left, List.take_left] at h
    have hj : i - (bodyR e).length < (be4 (adn 1 (bodyR e))).length := by rw [rec_len] at hn; rw [body_len]; simp [be4]; omega
    have h2 := congrArg (fun l : List Int => l[i - (bodyR e).length]?) h.2
    simp only [List.getElem?_set_self hj, List.getElem?_eq_getElem hj, Option.some.injEq] at h2
    apply hne
    rw [h2]
    simp [recR, List.getElem_append_right (show (bodyR e).length ≤ i by omega)]
theorem changed_err {e : Ev} (hi : idsOk e.ids 64 = true) {i : Nat} (h2 : 2 ≤ i) (hn : i < (recR e).length) {y : Int} (hy : 0 ≤ y ∧ y ≤ 255) (hne : y ≠ (recR e)[i]?.getD 0) : errR ((recR e).set i y) (propsR 64) = 6 := by
  have hc : e.ids.length ≤ 64 := by have := ids_count hi; omega
  have hp : propsR 64 = 64 := by decide
  have hL : lenR ((recR e).set i y) = 8 + e.ids.length := by
    rw [lenR_set h2]
    unfold recR
    exact body_lenR hc _
  have hs : sizeE ((recR e).set i y) 64 = 0 := by
    unfold sizeE
    rw [List.length_set, rec_len, if_neg (by omega), if_neg (by omega), hL, if_neg (by omega), if_neg (by omega)]
  unfold errR
  rw [hp, hs, if_neg (by omega), hL, List.take_of_length_le (by rw [List.length_set, rec_len]; omega), changed_sealed hi hn hy hne]
  rfl
theorem few_err {e : Ev} (hi : idsOk e.ids 64 = true) {p : Int} (h0 : 0 ≤ p) (hp : p < e.ids.length) : errR (recR e) (propsR p) = 2 := by
  have hc : e.ids.length ≤ 64 := by have := ids_count hi; omega
  have hq : propsR p = p := by unfold propsR; omega
  have hL : lenR (recR e) = 8 + e.ids.length := by unfold recR; exact body_lenR hc _
  have hs : sizeE (recR e) p = 2 := by
    unfold sizeE
    rw [rec_len, if_neg (by omega), if_neg (by omega), hL, if_pos (by omega)]
  unfold errR
  rw [hq, hs]
  rfl
theorem last_err {e : Ev} (hi : idsOk e.ids 64 = true) (h0 : 0 ≤ e.time) (h1 : e.time ≤ 18446744073709551615) {p : Int} (hk : 0 < e.ids.length) (hl : e.ids.getD (e.ids.length - 1) 0 = p) (hp : (e.ids.length : Int) ≤ p) (hp2 : p < 64) : errR (recR e) (propsR p) = 9 := by
  have hc : e.ids.length ≤ 64 := by have := ids_count hi; omega
  have hq : propsR p = p := by unfold propsR; omega
  have hL : lenR (recR e) = 8 + e.ids.length := by unfold recR; exact body_lenR hc _
  have hE : evR (recR e) = e := by unfold recR; exact body_ev hc h0 h1 _
  have hs : sizeE (recR e) p = 0 := by
    unfold sizeE
    rw [rec_len, if_neg (by omega), if_neg (by omega), hL, if_neg (by omega), if_neg (by omega)]
  have hbad : idsOk e.ids p = false := ids_no (i := e.ids.length - 1) (by omega) (fun h => by have := h.2.1; omega)
  unfold errR
  rw [hq, hs, if_neg (by omega), hL, hE, List.take_of_length_le (by rw [rec_len]; omega), rec_sealed, hbad]
  rfl
end Go.Proofs.Ytimbbfneaaglbaa.Record

namespace Go.Proofs.Ytimbbfneaaglbaa.Log
open Go.Proofs.Ytimbbfneaaglbaa.Ints Go.Proofs.Ytimbbfneaaglbaa.SumMath Go.Proofs.Ytimbbfneaaglbaa.SumWalks Go.Proofs.Ytimbbfneaaglbaa.Trace Go.Proofs.Ytimbbfneaaglbaa.Record

/-- Records from a place on, behind a time and some events: the events, and what is wrong (13: nothing is). -/
def recsD (b : List Int) (props : Int) : Nat → Nat → Int → List Ev → List Ev × Nat
  | 0, _, _, es => (es, 13)
  | f + 1, p, last, es =>
    if errR (b.drop p) (propsR props) ≠ 0 then (es, errR (b.drop p) (propsR props))
    else if (evR (b.drop p)).time < last then (es, 8)
    else recsD b props f (p + (lenR (b.drop p) + 6)) (evR (b.drop p)).time (es ++ [evR (b.drop p)])
/-- The records of bytes without a fault: the trace, and the error behind it (13: none). -/
def recordsD (b : List Int) : Tr × Nat :=
  if (headD b 5).2.2 ≠ 0 then (noTr, (headD b 5).2.2)
  else (⟨(headD b 5).1, (recsD b (headD b 5).1.length (b.length + 1) (headD b 5).2.1 0 []).1⟩, (recsD b (headD b 5).1.length (b.length + 1) (headD b 5).2.1 0 []).2)
/-- What Decode tells. -/
def decT (b : List Int) : Tr := (recordsD b).1
def decE (b : List Int) : Nat := if (recordsD b).2 = 13 then 0 else (recordsD b).2
theorem recsD_err {b : List Int} {props last : Int} {p e : Nat} {es : List Ev} (f : Nat) (h : errR (b.drop p) (propsR props) = e) (he : e ≠ 0) : recsD b props (f + 1) p last es = (es, e) := by
  rw [recsD, h, if_pos he]
theorem recsD_time {b : List Int} {props last : Int} {p : Nat} {es : List Ev} (f : Nat) (h : errR (b.drop p) (propsR props) = 0) (h2 : (evR (b.drop p)).time < last) : recsD b props (f + 1) p last es = (es, 8) := by
  rw [recsD, h, if_neg (fun h => h rfl), if_pos h2]
theorem recsD_next {b : List Int} {props last : Int} {p : Nat} {es : List Ev} (f : Nat) (h : errR (b.drop p) (propsR props) = 0) (h2 : ¬ (evR (b.drop p)).time < last) :
    recsD b props (f + 1) p last es = recsD b props f (p + (lenR (b.drop p) + 6)) (evR (b.drop p)).time (es ++ [evR (b.drop p)]) := by
  rw [recsD, h, if_neg (fun h => h rfl), if_neg h2]
theorem get_ok {b : List Int} {p : Int} (h : errR b (propsR p) = 0) : getE b p = evR b ∧ getN b p = lenR b + 6 ∧ 14 ≤ lenR b + 6 ∧ lenR b + 6 ≤ b.length := by
  obtain ⟨h1, -, -⟩ := err_zero h
  obtain ⟨-, g2, -, g4⟩ := size_zero h1
  exact ⟨by unfold getE; rw [if_pos h], by unfold getN; rw [if_pos h], by omega, g4⟩
theorem ev_time {b : List Int} (hb : ∀ z ∈ b, 0 ≤ z ∧ z ≤ 255) : 0 ≤ (evR b).time ∧ (evR b).time ≤ 18446744073709551615 := by
  have := num_bd 8 ((b.drop 2).take 8) (by rw [List.length_take]; omega) (fun z hz => hb z (List.mem_of_mem_drop (List.mem_of_mem_take hz)))
  have e : (256 : Nat) ^ 8 = 18446744073709551616 := by decide
  unfold evR
  simp only
  omega
end Go.Proofs.Ytimbbfneaaglbaa.Log
