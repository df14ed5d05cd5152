/-
  P10.4 as plain lists: a log cut off, a log with a byte of a record changed. By an AI agent.
  The law's Spoil: bytes with one of them another, some cut off, some besides. By an AI agent.
  The walk of the law's ids (stage 8). By an AI agent.
-/
import Derived.Test.YtimbbfneaaglbaaGreatGHeadsPlays27
import Derived.Test.YtimbbfneaaglbaaGreatGHeadsPlays19
import Derived.Test.YtimbbfneaaglbaaGreatGHeadsPlays15
import Derived.Test.YtimbbfneaaglbaaGreatGHeadsPlays6
namespace Go.Proofs.YtimbbfneaaglbaaGreat.Log
open Go.Proofs.YtimbbfneaaglbaaGreat.Ints Go.Proofs.YtimbbfneaaglbaaGreat.SumMath Go.Proofs.YtimbbfneaaglbaaGreat.SumWalks Go.Proofs.YtimbbfneaaglbaaGreat.Trace Go.Proofs.YtimbbfneaaglbaaGreat.Record
open Go.Proofs.YtimbbfneaaglbaaGreat.Lex (nameS)

theorem head_cut {names : List (List UInt8)} (h : namesOk names = true) {rest : List Int} (hr : ∀ z ∈ rest, 0 ≤ z ∧ z ≤ 255) {k : Nat} (hk : k < (headL names).length) : (headD ((headL names ++ rest).take k) 5).2.2 = 5 := by
  obtain ⟨b, hb⟩ : ∃ b, (headL names ++ rest).take k = b := ⟨_, rfl⟩
  have hB : ∀ z ∈ b, 0 ≤ z ∧ z ≤ 255 := by
    intro z hz
    rw [← hb] at hz
    rcases List.mem_append.1 (List.mem_of_mem_take hz) with h | h
    · exact head_bytes names z h
    · exact hr z h
  rw [hb]
  rcases head_err b with h0 | h5
  · exfalso
    obtain ⟨k1, k2⟩ := head_all hB (by decide) h0
    have k3 := (head_place (by decide) h0).2
    have k4 : headL names ++ rest = headL (headD b 5).1 ++ (b.drop (headD b 5).2.1 ++ (headL names ++ rest).drop k) := by
      rw [← List.append_assoc, ← k1, ← hb, List.take_append_drop]
    have k5 := head_enc h rest 5
    rw [k4, head_enc (headD_names (by decide) h0)] at k5
    have k6 : (headL (headD b 5).1).length = (headL names).length := congrArg (fun r => r.2.1) k5
    have k7 : b.length ≤ k := by rw [← hb, List.length_take]; omega
    omega
  · exact h5
theorem front_errp {e : Ev} {p : Int} (hp : 0 ≤ p ∧ p ≤ 64) (hi : idsOk e.ids p = true) {k : Nat} (hk : k < (recR e).length) : errR ((recR e).take k) (propsR p) = if k = 0 then 13 else 7 := by
  have hc0 := ids_count hi
  have hl : ((recR e).take k).length = k := by rw [List.length_take]; omega
  have hq : propsR p = p := by unfold propsR; omega
  have hs : sizeE ((recR e).take k) p = if k = 0 then 13 else 7 := by
    unfold sizeE
    rw [hl]
    by_cases h0 : k = 0
    · rw [if_pos h0, if_pos h0]
    · rw [if_neg h0, if_neg h0]
      by_cases h1 : k = 1
      · rw [if_pos h1]
      · have hL : lenR ((recR e).take k) = 8 + e.ids.length := by
          rw [lenR_take (by omega)]
          unfold recR
          exact body_lenR (by omega) _
        rw [rec_len] at hk
        rw [if_neg h1, hL, if_neg (by omega), if_pos (by omega)]
  unfold errR
  rw [hq, hs]
  split <;> rfl
/-- Of events that are cut off at a place: how many stand there whole, and where they end. -/
def wholeL (k : Nat) : Nat → List Ev → Nat × Nat
  | p, [] => (0, p)
  | p, e :: l => if k < p + 14 + e.ids.length then (0, p) else ((wholeL k (p + 14 + e.ids.length) l).1 + 1, (wholeL k (p + 14 + e.ids.length) l).2)
theorem recs_cut {b : List Int} {p : Int} {k : Nat} (hp : 0 ≤ p ∧ p ≤ 64) : ∀ (l : List Ev) (f : Nat) (pre : List Int) (last : Int) (es : List Ev), b = (pre ++ l.flatMap recR).take k → pre.length ≤ k → k ≤ (pre ++ l.flatMap recR).length → k < f + pre.length → (∀ e ∈ l, idsOk e.ids p = true) →
    (∀ e ∈ l, 0 ≤ e.time ∧ e.time ≤ 18446744073709551615) → Rise last l → recsD b p f pre.length last es = (es ++ l.take (wholeL k pre.length l).1, if (wholeL k pre.length l).2 = k then 13 else 7) := by
  intro l
  induction l with
  | nil =>
    intro f pre last es hb h1 h2 hf _ _ _
    obtain ⟨f, rfl⟩ : ∃ g, f = g + 1 := ⟨f - 1, by omega⟩
    have hk : k = pre.length := by simp at h2; omega
    have hd : b.drop pre.length = [] := List.drop_of_length_le (by rw [hb, List.length_take]; omega)
    have he : (wholeL k pre.length []).2 = k := hk.symm
    rw [if_pos he, List.take_nil, List.append_nil]
    refine recsD_err f ?_ (by decide)
    rw [hd]
    rfl
  | cons e l ih =>
    intro f pre last es hb h1 h2 hf hi ht hr
    obtain ⟨f, rfl⟩ : ∃ g, f = g + 1 := ⟨f - 1, by omega⟩
    have hie := hi e (List.mem_cons_self ..)
    have hd : b.drop pre.length = (recR e ++ l.flatMap recR).take (k - pre.length) := by
      rw [hb, List.drop_take, List.drop_left, List.flatMap_cons]
    by_cases hc : k < pre.length + 14 + e.ids.length
    · have hw : wholeL k pre.length (e :: l) = (0, pre.length) := by rw [wholeL, if_pos hc]
      have hl : k - pre.length < (recR e).length := by rw [rec_len]; omega
      rw [hw, List.take_zero, List.append_nil]
      have he := front_errp hp hie hl
      rw [List.take_append_of_le_length (by omega)] at hd
      rw [← hd] at he
      show _ = (es, if pre.length = k then 13 else 7)
      by_cases h0 : k - pre.length = 0
      · rw [if_pos h0] at he
        rw [if_pos (by omega), recsD_err f he (by decide)]
      · rw [if_neg h0] at he
        rw [if_neg (by omega), recsD_err f he (by decide)]
    · have hw : wholeL k pre.length (e :: l) = ((wholeL k (pre.length + 14 + e.ids.length) l).1 + 1, (wholeL k (pre.length + 14 + e.ids.length) l).2) := by rw [wholeL, if_neg hc]
      have hd2 : b.drop pre.length = recR e ++ (l.flatMap recR).take (k - pre.length - (recR e).length) := by
        rw [hd, List.take_append, List.take_of_length_le (by rw [rec_len]; omega)]
      have h3 := ht e (List.mem_cons_self ..)
      obtain ⟨g1, g2, g3⟩ := rec_get hp hie h3.1 h3.2 ((l.flatMap recR).take (k - pre.length - (recR e).length))
      have hlt : ¬ e.time < last := by have := hr.1; omega
      rw [recsD_next f (by rw [hd2]; exact g1) (by rw [hd2, g2]; exact hlt), hd2, g2, g3, hw]
      have h4 := ih f (pre ++ recR e) e.time (es ++ [e]) (by rw [hb]; simp) (by rw [List.length_append, rec_len]; omega) (by rw [List.append_assoc, ← List.flatMap_cons]; exact h2) (by rw [List.length_append, rec_len]; omega)
        (fun x hx => hi x (List.mem_cons_of_mem _ hx)) (fun x hx => ht x (List.mem_cons_of_mem _ hx)) hr.2
      rw [List.length_append, rec_len, ← Nat.add_assoc] at h4
      rw [show pre.length + (8 + e.ids.length + 6) = pre.length + 14 + e.ids.length by omega, h4]
      simp
theorem recs_bytes {l : List Ev} {p : Int} (hp : p ≤ 64) (h : ∀ e ∈ l, idsOk e.ids p = true) : ∀ z ∈ l.flatMap recR, 0 ≤ z ∧ z ≤ 255 := by
  intro z hz
  obtain ⟨e, he, hz⟩ := List.mem_flatMap.1 hz
  exact rec_bytes (ids_wide hp (h e he)) z hz
/-- A log that is cut off in its header. -/
theorem cut_head {t : Tr} (h : mayT t = true) {k : Nat} (hk : k < (headL t.names).length) : recordsD ((encL t).take k) = (noTr, 5) := by
  obtain ⟨h1, h2⟩ := (mayT_iff t).1 h
  have h64 := ((namesOk_iff _).1 h1).1
  have he : encL t = headL t.names ++ t.events.flatMap recR := by unfold encL; rw [if_pos h]
  have := head_cut h1 (rest := t.events.flatMap recR) (recs_bytes (p := t.names.length) (by omega) (evs_ids h2)) hk
  rw [he]
  unfold recordsD
  rw [this, if_pos (by decide)]
/-- A log that is cut off behind its header. -/
theorem cut_recs {t : Tr} (h : mayT t = true) (ht : ∀ e ∈ t.events, 0 ≤ e.time ∧ e.time ≤ 18446744073709551615) {k : Nat} (h0 : (headL t.names).length ≤ k) (hk : k ≤ (encL t).length) :
    recordsD ((encL t).take k) = (⟨t.names, t.events.take (wholeL k (headL t.names).length t.events).1⟩, if (wholeL k (headL t.names).length t.events).2 = k then 13 else 7) := by
  obtain ⟨h1, h2⟩ := (mayT_iff t).1 h
  have h64 := ((namesOk_iff _).1 h1).1
  have he : encL t = headL t.names ++ t.events.flatMap recR := by unfold encL; rw [if_pos h]
  rw [he] at hk ⊢
  obtain ⟨b, hb⟩ : ∃ b, (headL t.names ++ t.events.flatMap recR).take k = b := ⟨_, rfl⟩
  have hb2 : b = headL t.names ++ (t.events.flatMap recR).take (k - (headL t.names).length) := by rw [← hb, List.take_append, List.take_of_length_le h0]
  have hd : headD b 5 = (t.names, (headL t.names).length, 0) := by rw [hb2]; exact head_enc h1 _ 5
  have hr := rise_of t.events 0 h2 fun e he => (ht e (List.mem_of_head? he)).1
  have hq := recs_cut (b := b) (p := (t.names.length : Int)) ⟨by omega, by omega⟩ t.events (b.length + 1) (headL t.names) 0 [] hb.symm h0 hk (by rw [← hb, List.length_take]; omega) (evs_ids h2) ht hr
  rw [hb]
  unfold recordsD
  rw [hd]
  simp only
  rw [if_neg (by simp), hq]
  rfl
/-! ### a byte of a record changed -/
def lastT : Int → List Ev → Int
  | t, [] => t
  | _, e :: l => lastT e.time l
/-- Over records that are right. -/
theorem recs_over {b : List Int} {p : Int} (hp : 0 ≤ p ∧ p ≤ 64) : ∀ (l : List Ev) (f : Nat) (pre rest : List Int) (last : Int) (es : List Ev), b = pre ++ (l.flatMap recR ++ rest) → (∀ e ∈ l, idsOk e.ids p = true) →
    (∀ e ∈ l, 0 ≤ e.time ∧ e.time ≤ 18446744073709551615) → Rise last l → recsD b p (f + l.length) pre.length last es = recsD b p f (pre.length + (l.flatMap recR).length) (lastT last l) (es ++ l) := by
  intro l
  induction l with
  | nil => intro f pre rest last es _ _ _ _; simp [lastT]
  | cons e l ih =>
    intro f pre rest last es hb hi ht hr
    have hd : b.drop pre.length = recR e ++ (l.flatMap recR ++ rest) := by rw [hb, List.drop_left, List.flatMap_cons, List.append_assoc]
    have h1 := ht e (List.mem_cons_self ..)
    obtain ⟨g1, g2, g3⟩ := rec_get hp (hi e (List.mem_cons_self ..)) h1.1 h1.2 (l.flatMap recR ++ rest)
    have hlt : ¬ e.time < last := by have := hr.1; omega
    rw [List.length_cons, ← Nat.add_assoc, recsD_next (f + l.length) (by rw [hd]; exact g1) (by rw [hd, g2]; exact hlt), hd, g2, g3]
    have h3 := ih f (pre ++ recR e) rest e.time (es ++ [e]) (by rw [hb]; simp) (fun x hx => hi x (List.mem_cons_of_mem _ hx)) (fun x hx => ht x (List.mem_cons_of_mem _ hx)) hr.2
    rw [List.length_append, rec_len] at h3
    rw [show pre.length + (8 + e.ids.length + 6) = pre.length + (14 + e.ids.length) by omega, h3, List.flatMap_cons, List.length_append, rec_len, lastT]
    rw [show es ++ [e] ++ l = es ++ e :: l by simp, show pre.length + (14 + e.ids.length) + (l.flatMap recR).length = pre.length + (14 + e.ids.length + (l.flatMap recR).length) by omega]
theorem changed_errp {e : Ev} {p : Int} (hp : 0 ≤ p ∧ p ≤ 64) (hi : idsOk e.ids p = true) {i : Nat} (h2 : 2 ≤ i) (hn : i < (recR e).length) {y : Int} (hy : 0 ≤ y ∧ y ≤ 255) (hne : y ≠ (recR e)[i]?.getD 0) (rest : List Int) : errR ((recR e).set i y ++ rest) (propsR p) = 6 := by
  have hc0 := ids_count hi
  have hq : propsR p = p := by unfold propsR; omega
  have hl : ((recR e).set i y).length = 14 + e.ids.length := by rw [List.length_set, rec_len]
  have hL : lenR ((recR e).set i y ++ rest) = 8 + e.ids.length := by
    have h3 : lenR ((recR e).set i y ++ rest) = lenR ((recR e).set i y) := by
      unfold lenR
      rw [List.take_append_of_le_length (by omega)]
    rw [h3, lenR_set h2]
    unfold recR
    exact body_lenR (by omega) _
  have hs : sizeE ((recR e).set i y ++ rest) p = 0 := by
    unfold sizeE
    rw [List.length_append, hl, if_neg (by omega), if_neg (by omega), hL, if_neg (by omega), if_neg (by omega)]
  unfold errR
  rw [hq, hs, if_neg (by omega), hL, List.take_append_of_le_length (by omega), List.take_of_length_le (by omega), changed_sealed (ids_wide hp.2 hi) hn hy hne]
  rfl
/-- A byte of a record changed, behind its length: all events ahead of it are told, and no other. -/
theorem tell_recs {t : Tr} (h : mayT t = true) (ht : ∀ e ∈ t.events, 0 ≤ e.time ∧ e.time ≤ 18446744073709551615) {k j : Nat} (hk : k < t.events.length) (hj : j < 12 + (t.events.getD k noEv).ids.length) {y : Int} (hy : 0 ≤ y ∧ y ≤ 255)
    {i : Nat} (hi : i = (headL t.names).length + ((t.events.take k).flatMap recR).length + 2 + j) (hne : y ≠ (encL t)[i]?.getD 0) :
    i < (encL t).length ∧ recordsD ((encL t).set i y) = (⟨t.names, t.events.take k⟩, 6) := by
  obtain ⟨h1, h2⟩ := (mayT_iff t).1 h
  have h64 := ((namesOk_iff _).1 h1).1
  have he : encL t = headL t.names ++ t.events.flatMap recR := by unfold encL; rw [if_pos h]
  have e2 : t.events.getD k noEv = t.events[k] := by simp [List.getD, hk]
  rw [e2] at hj
  have hsp : t.events = t.events.take k ++ t.events[k] :: t.events.drop (k + 1) := by rw [List.getElem_cons_drop, List.take_append_drop]
  obtain ⟨E, hE⟩ : ∃ E, t.events[k] = E := ⟨_, rfl⟩
  obtain ⟨L, hL⟩ : ∃ L, t.events.take k = L := ⟨_, rfl⟩
  obtain ⟨R, hR⟩ : ∃ R, t.events.drop (k + 1) = R := ⟨_, rfl⟩
  have hmem : E ∈ t.events := hE ▸ List.getElem_mem hk
  have hsub : ∀ x ∈ L, x ∈ t.events := fun x hx => List.mem_of_mem_take (hL ▸ hx)
  have hids := evs_ids h2
  have hr : Rise 0 L := by
    have := evs_take h2 k
    rw [hL] at this
    exact rise_of L 0 this fun e he => (ht e (hsub e (List.mem_of_head? he))).1
  rw [hE, hL, hR] at hsp
  rw [hE] at hj
  rw [hL] at hi ⊢
  have hb : encL t = headL t.names ++ (L.flatMap recR ++ (recR E ++ R.flatMap recR)) := by rw [he, hsp]; simp
  have hl := rec_len E
  have hq : i = (headL t.names ++ L.flatMap recR).length + (2 + j) := by rw [List.length_append]; omega
  have hset : (encL t).set i y = headL t.names ++ (L.flatMap recR ++ ((recR E).set (2 + j) y ++ R.flatMap recR)) := by
    rw [hb, ← List.append_assoc, hq, List.set_append_right _ _ (by omega), show (headL t.names ++ L.flatMap recR).length + (2 + j) - (headL t.names ++ L.flatMap recR).length = 2 + j by omega,
      List.set_append_left _ _ (by omega), List.append_assoc]
  have hne2 : y ≠ (recR E)[2 + j]?.getD 0 := by
    rw [hb, ← List.append_assoc, hq, List.getElem?_append_right (by omega), show (headL t.names ++ L.flatMap recR).length + (2 + j) - (headL t.names ++ L.flatMap recR).length = 2 + j by omega,
      List.getElem?_append_left (by omega)] at hne
    exact hne
  refine ⟨by rw [hb]; simp only [List.length_append]; omega, ?_⟩
  obtain ⟨c, hc⟩ : ∃ c, (encL t).set i y = c := ⟨_, rfl⟩
  rw [hc] at hset
  have hd : headD c 5 = (t.names, (headL t.names).length, 0) := by rw [hset]; exact head_enc h1 _ 5
  have hcl : c.length = (headL t.names).length + ((L.flatMap recR).length + (14 + E.ids.length + (R.flatMap recR).length)) := by
    rw [hset]
    simp only [List.length_append, List.length_set, hl]
  have hL2 := flat_count L
  have ho := recs_over (b := c) (p := (t.names.length : Int)) ⟨by omega, by omega⟩ L (c.length - L.length + 1) (headL t.names) ((recR E).set (2 + j) y ++ R.flatMap recR) 0 [] hset (fun x hx => hids x (hsub x hx)) (fun x hx => ht x (hsub x hx)) hr
  have herr : errR (c.drop ((headL t.names).length + (L.flatMap recR).length)) (propsR (t.names.length : Int)) = 6 := by
    rw [hset, ← List.append_assoc, ← List.length_append, List.drop_left]
    exact changed_errp ⟨by omega, by omega⟩ (hids E hmem) (by omega) (by omega) hy hne2 _
  rw [recsD_err _ herr (by decide), show c.length - L.length + 1 + L.length = c.length + 1 by omega] at ho
  rw [hc]
  unfold recordsD
  rw [hd]
  simp only
  rw [if_neg (by simp), ho]
  rfl
end Go.Proofs.YtimbbfneaaglbaaGreat.Log

namespace Go.Proofs.YtimbbfneaaglbaaGreat.Log
open Go.RowKit Go.Proofs.YtimbbfneaaglbaaGreat.Ints Go.Proofs.YtimbbfneaaglbaaGreat.Mem Go.Proofs.YtimbbfneaaglbaaGreat.SumMath Go.Proofs.YtimbbfneaaglbaaGreat.SumWalks Go.Proofs.YtimbbfneaaglbaaGreat.Trace Go.Proofs.YtimbbfneaaglbaaGreat.Record

theorem row_take {w : World} {base : Nat} {e : TypeId} {size : Nat} {A : Option Addr} {n c k : Nat} {xs ys : List Value} (h : w.ownsRow base e size (.slice A n c) n xs) (hk : k ≤ n) (hy : ys = xs.take (k * size)) : w.ownsRow base e size (.slice A k c) k ys := by
  subst hy
  obtain ⟨h1, h2⟩ := h
  have hle : k * size ≤ n * size := Nat.mul_le_mul_right _ hk
  refine ⟨by rw [List.length_take, h1]; omega, ?_⟩
  rcases h2 with ⟨h3, h4⟩ | ⟨g, cap, cur, h3, h4, h5, h6, h7, h8, h9⟩
  · have h3 : (A = none ∧ n = 0 ∧ c = 0) := by injection h3 with a b d; exact ⟨a, b, d⟩
    obtain ⟨rfl, rfl, rfl⟩ := h3
    have : k = 0 := by omega
    subst this
    exact Or.inl ⟨rfl, rfl⟩
  · injection h3 with a b d
    subst a; subst d
    refine Or.inr ⟨g, c, cur, rfl, h4, h5, by omega, h7, h8, ?_⟩
    rw [← h9, List.take_take, Nat.min_eq_left hle]
/-- Bytes with one of them another, some cut off. -/
def cutS (b : List Int) (p q x : Nat) : List Int :=
  if b.length = 0 then [] else (b.set (p % b.length) (bits .xor .u8 (b[p % b.length]?.getD 0) (x : Int))).take (b.length - q % b.length)
set_option maxHeartbeats 4000000 in
set_option maxRecDepth 100000 in
theorem lawSpoil (A : Option Addr) (n c : Nat) (zs : List Int) (p q x : Nat) (R : Option Addr) (l d : Nat) (rs : List Int) (w : World) (hp : p ≤ 65535) (hq : q ≤ 65535) (hx : x ≤ 255) (hnc : n ≤ c) (hn : n ≤ 1099511627776) (h : Rd .u8 w A n zs) (hl : l ≤ 140737488351232) (hR : Rd .u8 w R l rs) :
    Calls Tryz.prog 9 #[.slice A n c, .int .u16 (p : Int), .int .u16 (q : Int), .int .u8 (x : Int), .slice R l d] w (GotBytes w (cutS zs p q x ++ rs)) := by
  have q63 : maxLen = 9223372036854775807 := rfl
  obtain ⟨i0, hi, hz0, hz1, hz2⟩ := info_parts info5'
  obtain ⟨hlen, -⟩ := id h
  obtain ⟨hrl, -⟩ := id hR
  have HZ := Lib.hid h
  have HR := Lib.hid hR
  have HW := Lib.hid h.all
  obtain ⟨cs, hcs⟩ : ∃ cs, cutS zs p q x = cs := ⟨_, rfl⟩
  rw [hcs]
  by_cases h0 : n = 0
  · subst h0
    obtain rfl : zs = [] := List.eq_nil_of_length_eq_zero hlen
    obtain rfl : cs = [] := by rw [← hcs]; rfl
    clear h hR hcs
    go_enter Tryz.func9, Tryz.ntmps9
    go_wp2_with (first
      | (at_builtin; refine wpList_append_ints_wide rfl _ _ 28 rfl .u8 w.heap.size 5 i0 1 Tryz.underlying28 hi hz0 hz1 hz2 _ _ _ rfl HO1.out _ _ _ rs rfl HR1.out (by omega) (by omega) hs1 ?_; intro v2 w2 hown2 hgr2; have HO2 := Lib.hid hown2; have HB2 := Lib.hid (HB1.out.grown hgr2 hs1 (fun q hq => (HO1.out.lt q hq).1)); clear hown2 hgr2)
      | (at_builtin; refine wpList_append_ints_wide rfl _ _ 28 rfl .u8 w.heap.size 5 i0 1 Tryz.underlying28 hi hz0 hz1 hz2 _ _ _ rfl (own_lit w w.heap.size 5 .u8 [] 0 rfl (by decide) (Nat.le_refl _)) _ _ _ [] rfl (HZ.out.alloc _) (by omega) (by omega) (le_alloc (Nat.le_refl _)) ?_; intro v1 w1 hown1 hgr1; have hB1 := ((Below.refl w.heap.size w).alloc (Nat.le_refl _) (.cells #[] 5)).grown hgr1 (le_alloc (Nat.le_refl _)) (fun b hb => by injection hb with hb; exact Nat.le_of_eq hb); obtain ⟨A1, c1, rfl, hc1, hm1, -, -⟩ := own_slice hown1; have hs1 := hB1.size; have HO1 := Lib.hid hown1; have HR1 := Lib.hid (HR.out.below hB1); have HB1 := Lib.hid hB1; clear hown1 hgr1 hB1))
    go_ret
    exact ⟨_, rfl, row_more (by omega) rfl HO2.out, HB2.out⟩
  · obtain ⟨i, hpi, hil⟩ : ∃ i : Nat, (p : Int) % (n : Int) = (i : Int) ∧ i < n := ⟨p % n, by rw [Int.natCast_emod], Nat.mod_lt _ (by omega)⟩
    obtain ⟨j, hqj, hjl⟩ : ∃ j : Nat, (q : Int) % (n : Int) = (j : Int) ∧ j < n := ⟨q % n, by rw [Int.natCast_emod], Nat.mod_lt _ (by omega)⟩
    obtain ⟨k, hk⟩ : ∃ k : Nat, n - j = k := ⟨_, rfl⟩
    have hsub : (n : Int) - (j : Int) = (k : Int) := by omega
    obtain ⟨z, hz⟩ : ∃ z, zs[i]?.getD 0 = z := ⟨_, rfl⟩
    have hbd : 0 ≤ z ∧ z ≤ 255 := by rw [← hz]; exact h.u8 i hil
    have hxo := (xor_u8 z (x : Int) hbd ⟨by omega, by omega⟩).1
    have hcs2 : cs = (zs.set i (bits .xor .u8 z (x : Int))).take k := by
      have e1 : p % n = i := by have : ((p % n : Nat) : Int) = (i : Int) := by rw [Int.natCast_emod]; exact hpi
                                omega
      have e2 : q % n = j := by have : ((q % n : Nat) : Int) = (j : Int) := by rw [Int.natCast_emod]; exact hqj
                                omega
      rw [← hcs]
      unfold cutS
      rw [hlen, if_neg h0, e1, e2, hk, hz]
    have HCS := Lib.hid hcs2
    have HX := Lib.hid hxo
    have HK := Lib.hid hk
    have HZI := Lib.hid hz
    obtain ⟨z0, z1⟩ := hbd
    have hn0 : ((n : Int) == 0) = false := by simp; omega
    have hn1 : (i : Int) < (n : Int) := by omega
    have hn2 : ¬ n = 0 := by omega
    have hn3 : (0 : Int) < (n : Int) := by omega
    have hkn : k ≤ n := by omega
    have hcl : cs.length = k := by rw [hcs2, List.length_take, List.length_set]; omega
    have HCL := Lib.hid hcl
    clear h hR hcs hcs2 hxo hk hz hcl
    go_enter Tryz.func9, Tryz.ntmps9
    go_wp2_with (first
      | (at_builtin; refine wpList_append_ints_wide rfl _ _ 28 rfl .u8 w.heap.size 5 i0 1 Tryz.underlying28 hi hz0 hz1 hz2 _ _ _ rfl (own_lit w w.heap.size 5 .u8 [] 0 rfl (by decide) (Nat.le_refl _)) _ _ _ zs rfl (HZ.out.alloc _) (by omega) (by omega) (le_alloc (Nat.le_refl _)) ?_; intro v1 w1 hown1 hgr1; have hB1 := ((Below.refl w.heap.size w).alloc (Nat.le_refl _) (.cells #[] 5)).grown hgr1 (le_alloc (Nat.le_refl _)) (fun b hb => by injection hb with hb; exact Nat.le_of_eq hb); have hown2 := row_more (m := n) (ys := zs) (by omega) (List.nil_append zs) hown1; obtain ⟨g, c1, rfl, hg, hgl, hc1, hm1⟩ := own_form hown2 (by omega); have hcell := own_cell hown2 hil; have hfz := hown2.frozenAt i; rw [HZI.out] at hcell; have HO1 := Lib.hid hown2; have HB1 := Lib.hid hB1; clear hown1 hgr1 hB1 hown2)
      | (at_builtin; refine wpList_append_ints_wide rfl _ _ 28 rfl .u8 w.heap.size 5 i0 1 Tryz.underlying28 hi hz0 hz1 hz2 _ _ _ rfl (row_take (ys := cs.map (Value.int .u8)) (own_set HO1.out i (bits .xor .u8 z (x : Int))) hkn (by rw [HCS.out, List.map_take, Nat.mul_one])) _ _ _ rs rfl (HR.out.below (HB1.out.setCell hg _)) (by omega) (by omega) (HB1.out.setCell hg _).size ?_; intro v2 w2 hown2 hgr2; have HO2 := Lib.hid hown2; have HB2 := Lib.hid ((HB1.out.setCell hg _).grown hgr2 (HB1.out.setCell hg _).size (fun q hq => by injection hq with hq; rw [← hq]; exact hg)); clear hown2 hgr2))
    go_ret
    exact ⟨_, rfl, row_more (by rw [List.length_append, HCL.out, hrl]) rfl HO2.out, HB2.out⟩
end Go.Proofs.YtimbbfneaaglbaaGreat.Log

namespace Go.Proofs.YtimbbfneaaglbaaGreat.Trace
open Go.RowKit Go.Proofs.YtimbbfneaaglbaaGreat.Ints Go.Proofs.YtimbbfneaaglbaaGreat.Mem

/-- The ids of three names, by bits: those below k. -/
def idsUp (n k : Nat) : List Int := ((List.range k).filter fun i => n.testBit i).map Int.ofNat
def idsM (n : Nat) : List Int := idsUp n 3
theorem ids_ok : ∀ n, n < 8 → idsOk (idsM n) 3 = true := by decide +kernel
theorem ids_len : ∀ n, n < 8 → (idsM n).length ≤ 3 := by decide +kernel
theorem ids_wf : ∀ n, n < 8 → ∀ z ∈ idsM n, (Lit.int .i64 z).wf = true := by decide +kernel
theorem infoInt : (Tryz.prog.info? 3).map (fun i => (i.zero, i.size, i.bytes)) = some (some (.int .i64 0), 1, 8) := by kernel_rfl
/-- What a call that hands back ids of its own leaves. -/
def GotIds (w : World) (l : List Int) (e : Ending) (w' : World) : Prop :=
  ∃ A c, e = .returned (.slice A l.length c) ∧ Rd .i64 w' A l.length l ∧ l.length ≤ c ∧ c ≤ maxLen ∧ Below w.heap.size w w' ∧ ∀ a, A = some a → w.heap.size ≤ a.block

set_option maxHeartbeats 8000000 in
set_option maxRecDepth 100000 in
theorem lawIdsI (n : Nat) (m : Int) (hm : m = (n : Int)) (hn : n < 8) (w : World) : Calls Tryz.prog 29 #[.int .u16 m] w (GotIds w (idsM n)) := by
  obtain ⟨i0, hi, hz0, hz1, hz2⟩ := info_parts infoInt
  have hni : m < 8 := by omega
  have hmi : 0 ≤ m := by omega
  have HN := Lib.hid hn
  have HMI := Lib.hid hm
  clear hn hm
  go_enter Tryz.func29, Tryz.ntmps29
  go_wp2
  go_loopw [3, 5] (fun v i wr => ∃ k : Nat, k ≤ 3 ∧ i = .int .i64 k ∧ wr.ownsRow w.heap.size 3 1 v (idsUp n k).length ((idsUp n k).map (Value.int .i64)) ∧ Below w.heap.size w wr) (fun _ i _ => 3 - (intOf i).toNat)
  case atStart => exact ⟨0, Nat.zero_le _, rfl, World.ownsRow_nil _ _ _ _, Below.refl _ _⟩
  case round =>
    obtain ⟨k, hk, rfl, hrow, hB⟩ := hrel
    have HRW := Lib.hid hrow
    have HB := Lib.hid hB
    clear hrow hB
    have h8 : n = 0 ∨ n = 1 ∨ n = 2 ∨ n = 3 ∨ n = 4 ∨ n = 5 ∨ n = 6 ∨ n = 7 := by have := HN.out; omega
    have h3 : k = 0 ∨ k = 1 ∨ k = 2 ∨ k = 3 := by omega
    rcases h3 with rfl | rfl | rfl | rfl
    · rcases h8 with rfl | rfl | rfl | rfl | rfl | rfl | rfl | rfl
      · obtain rfl : m = 0 := by have := HMI.out; omega
        go_wp2
        go_roundw
        case rel => exact ⟨1, by omega, by go_num, HRW.out, HB.out⟩
        case measure => simp [intOf]
      · obtain rfl : m = 1 := by have := HMI.out; omega
        go_wp2_with (at_builtin; refine wpList_append_ints rfl (.tmp 14) (.tmp 16) 24 rfl .i64 w.heap.size 3 i0 8 Tryz.underlying24 hi hz0 hz1 hz2 _ _ _ rfl (HRW.out.alloc _) _ 1 1 [(0 : Int)] rfl (Rd.lit wr 3 (0, 0) [(0 : Int)] (fun z hz => by rw [List.mem_singleton.1 hz]; decide)) (by decide) (by decide) (le_alloc HB.out.size) ?_; intro v2 w2 hown2 hgr2)
        go_roundw
        case rel => exact ⟨1, by omega, by go_num, hown2, (HB.out.alloc HB.out.size _).grown hgr2 (le_alloc HB.out.size) (fun z hz => (HRW.out.lt z hz).1)⟩
        case measure => simp [intOf]
      · obtain rfl : m = 2 := by have := HMI.out; omega
        go_wp2
        go_roundw
        case rel => exact ⟨1, by omega, by go_num, HRW.out, HB.out⟩
        case measure => simp [intOf]
      · obtain rfl : m = 3 := by have := HMI.out; omega
        go_wp2_with (at_builtin; refine wpList_append_ints rfl (.tmp 14) (.tmp 16) 24 rfl .i64 w.heap.size 3 i0 8 Tryz.underlying24 hi hz0 hz1 hz2 _ _ _ rfl (HRW.out.alloc _) _ 1 1 [(0 : Int)] rfl (Rd.lit wr 3 (0, 0) [(0 : Int)] (fun z hz => by rw [List.mem_singleton.1 hz]; decide)) (by decide) (by decide) (le_alloc HB.out.size) ?_; intro v2 w2 hown2 hgr2)
        go_roundw
        case rel => exact ⟨1, by omega, by go_num, hown2, (HB.out.alloc HB.out.size _).grown hgr2 (le_alloc HB.out.size) (fun z hz => (HRW.out.lt z hz).1)⟩
        case measure => simp [intOf]
      · obtain rfl : m = 4 := by have := HMI.out; omega
        go_wp2
        go_roundw
        case rel => exact ⟨1, by omega, by go_num, HRW.out, HB.out⟩
        case measure => simp [intOf]
      · obtain rfl : m = 5 := by have := HMI.out; omega
        go_wp2_with (at_builtin; refine wpList_append_ints rfl (.tmp 14) (.tmp 16) 24 rfl .i64 w.heap.size 3 i0 8 Tryz.underlying24 hi hz0 hz1 hz2 _ _ _ rfl (HRW.out.alloc _) _ 1 1 [(0 : Int)] rfl (Rd.lit wr 3 (0, 0) [(0 : Int)] (fun z hz => by rw [List.mem_singleton.1 hz]; decide)) (by decide) (by decide) (le_alloc HB.out.size) ?_; intro v2 w2 hown2 hgr2)
        go_roundw
        case rel => exact ⟨1, by omega, by go_num, hown2, (HB.out.alloc HB.out.size _).grown hgr2 (le_alloc HB.out.size) (fun z hz => (HRW.out.lt z hz).1)⟩
        case measure => simp [intOf]
      · obtain rfl : m = 6 := by have := HMI.out; omega
        go_wp2
        go_roundw
        case rel => exact ⟨1, by omega, by go_num, HRW.out, HB.out⟩
        case measure => simp [intOf]
      · obtain rfl : m = 7 := by have := HMI.out; omega
        go_wp2_with (at_builtin; refine wpList_append_ints rfl (.tmp 14) (.tmp 16) 24 rfl .i64 w.heap.size 3 i0 8 Tryz.underlying24 hi hz0 hz1 hz2 _ _ _ rfl (HRW.out.alloc _) _ 1 1 [(0 : Int)] rfl (Rd.lit wr 3 (0, 0) [(0 : Int)] (fun z hz => by rw [List.mem_singleton.1 hz]; decide)) (by decide) (by decide) (le_alloc HB.out.size) ?_; intro v2 w2 hown2 hgr2)
        go_roundw
        case rel => exact ⟨1, by omega, by go_num, hown2, (HB.out.alloc HB.out.size _).grown hgr2 (le_alloc HB.out.size) (fun z hz => (HRW.out.lt z hz).1)⟩
        case measure => simp [intOf]
    · rcases h8 with rfl | rfl | rfl | rfl | rfl | rfl | rfl | rfl
      · obtain rfl : m = 0 := by have := HMI.out; omega
        go_wp2
        go_roundw
        case rel => exact ⟨2, by omega, by go_num, HRW.out, HB.out⟩
        case measure => simp [intOf]
      · obtain rfl : m = 1 := by have := HMI.out; omega
        go_wp2
        go_roundw
        case rel => exact ⟨2, by omega, by go_num, HRW.out, HB.out⟩
        case measure => simp [intOf]
      · obtain rfl : m = 2 := by have := HMI.out; omega
        go_wp2_with (at_builtin; refine wpList_append_ints rfl (.tmp 14) (.tmp 16) 24 rfl .i64 w.heap.size 3 i0 8 Tryz.underlying24 hi hz0 hz1 hz2 _ _ _ rfl (HRW.out.alloc _) _ 1 1 [(1 : Int)] rfl (Rd.lit wr 3 (0, 0) [(1 : Int)] (fun z hz => by rw [List.mem_singleton.1 hz]; decide)) (by decide) (by decide) (le_alloc HB.out.size) ?_; intro v2 w2 hown2 hgr2)
        go_roundw
        case rel => exact ⟨2, by omega, by go_num, hown2, (HB.out.alloc HB.out.size _).grown hgr2 (le_alloc HB.out.size) (fun z hz => (HRW.out.lt z hz).1)⟩
        case measure => simp [intOf]
      · obtain rfl : m = 3 := by have := HMI.out; omega
        go_wp2_with (at_builtin; refine wpList_append_ints rfl (.tmp 14) (.tmp 16) 24 rfl .i64 w.heap.size 3 i0 8 Tryz.underlying24 hi hz0 hz1 hz2 _ _ _ rfl (HRW.out.alloc _) _ 1 1 [(1 : Int)] rfl (Rd.lit wr 3 (0, 0) [(1 : Int)] (fun z hz => by rw [List.mem_singleton.1 hz]; decide)) (by decide) (by decide) (le_alloc HB.out.size) ?_; intro v2 w2 hown2 hgr2)
        go_roundw
        case rel => exact ⟨2, by omega, by go_num, hown2, (HB.out.alloc HB.out.size _).grown hgr2 (le_alloc HB.out.size) (fun z hz => (HRW.out.lt z hz).1)⟩
        case measure => simp [intOf]
      · obtain rfl : m = 4 := by have := HMI.out; omega
        go_wp2
        go_roundw
        case rel => exact ⟨2, by omega, by go_num, HRW.out, HB.out⟩
        case measure => simp [intOf]
      · obtain rfl : m = 5 := by have := HMI.out; omega
        go_wp2
        go_roundw
        case rel => exact ⟨2, by omega, by go_num, HRW.out, HB.out⟩
        case measure => simp [intOf]
      · obtain rfl : m = 6 := by have := HMI.out; omega
        go_wp2_with (at_builtin; refine wpList_append_ints rfl (.tmp 14) (.tmp 16) 24 rfl .i64 w.heap.size 3 i0 8 Tryz.underlying24 hi hz0 hz1 hz2 _ _ _ rfl (HRW.out.alloc _) _ 1 1 [(1 : Int)] rfl (Rd.lit wr 3 (0, 0) [(1 : Int)] (fun z hz => by rw [List.mem_singleton.1 hz]; decide)) (by decide) (by decide) (le_alloc HB.out.size) ?_; intro v2 w2 hown2 hgr2)
        go_roundw
        case rel => exact ⟨2, by omega, by go_num, hown2, (HB.out.alloc HB.out.size _).grown hgr2 (le_alloc HB.out.size) (fun z hz => (HRW.out.lt z hz).1)⟩
        case measure => simp [intOf]
      · obtain rfl : m = 7 := by have := HMI.out; omega
        go_wp2_with (at_builtin; refine wpList_append_ints rfl (.tmp 14) (.tmp 16) 24 rfl .i64 w.heap.size 3 i0 8 Tryz.underlying24 hi hz0 hz1 hz2 _ _ _ rfl (HRW.out.alloc _) _ 1 1 [(1 : Int)] rfl (Rd.lit wr 3 (0, 0) [(1 : Int)] (fun z hz => by rw [List.mem_singleton.1 hz]; decide)) (by decide) (by decide) (le_alloc HB.out.size) ?_; intro v2 w2 hown2 hgr2)
        go_roundw
        case rel => exact ⟨2, by omega, by go_num, hown2, (HB.out.alloc HB.out.size _).grown hgr2 (le_alloc HB.out.size) (fun z hz => (HRW.out.lt z hz).1)⟩
        case measure => simp [intOf]
    · rcases h8 with rfl | rfl | rfl | rfl | rfl | rfl | rfl | rfl
      · obtain rfl : m = 0 := by have := HMI.out; omega
        go_wp2
        go_roundw
        case rel => exact ⟨3, by omega, by go_num, HRW.out, HB.out⟩
        case measure => simp [intOf]
      · obtain rfl : m = 1 := by have := HMI.out; omega
        go_wp2
        go_roundw
        case rel => exact ⟨3, by omega, by go_num, HRW.out, HB.out⟩
        case measure => simp [intOf]
      · obtain rfl : m = 2 := by have := HMI.out; omega
        go_wp2
        go_roundw
        case rel => exact ⟨3, by omega, by go_num, HRW.out, HB.out⟩
        case measure => simp [intOf]
      · obtain rfl : m = 3 := by have := HMI.out; omega
        go_wp2
        go_roundw
        case rel => exact ⟨3, by omega, by go_num, HRW.out, HB.out⟩
        case measure => simp [intOf]
      · obtain rfl : m = 4 := by have := HMI.out; omega
        go_wp2_with (at_builtin; refine wpList_append_ints rfl (.tmp 14) (.tmp 16) 24 rfl .i64 w.heap.size 3 i0 8 Tryz.underlying24 hi hz0 hz1 hz2 _ _ _ rfl (HRW.out.alloc _) _ 1 1 [(2 : Int)] rfl (Rd.lit wr 3 (0, 0) [(2 : Int)] (fun z hz => by rw [List.mem_singleton.1 hz]; decide)) (by decide) (by decide) (le_alloc HB.out.size) ?_; intro v2 w2 hown2 hgr2)
        go_roundw
        case rel => exact ⟨3, by omega, by go_num, hown2, (HB.out.alloc HB.out.size _).grown hgr2 (le_alloc HB.out.size) (fun z hz => (HRW.out.lt z hz).1)⟩
        case measure => simp [intOf]
      · obtain rfl : m = 5 := by have := HMI.out; omega
        go_wp2_with (at_builtin; refine wpList_append_ints rfl (.tmp 14) (.tmp 16) 24 rfl .i64 w.heap.size 3 i0 8 Tryz.underlying24 hi hz0 hz1 hz2 _ _ _ rfl (HRW.out.alloc _) _ 1 1 [(2 : Int)] rfl (Rd.lit wr 3 (0, 0) [(2 : Int)] (fun z hz => by rw [List.mem_singleton.1 hz]; decide)) (by decide) (by decide) (le_alloc HB.out.size) ?_; intro v2 w2 hown2 hgr2)
        go_roundw
        case rel => exact ⟨3, by omega, by go_num, hown2, (HB.out.alloc HB.out.size _).grown hgr2 (le_alloc HB.out.size) (fun z hz => (HRW.out.lt z hz).1)⟩
        case measure => simp [intOf]
      · obtain rfl : m = 6 := by have := HMI.out; omega
        go_wp2_with (at_builtin; refine wpList_append_ints rfl (.tmp 14) (.tmp 16) 24 rfl .i64 w.heap.size 3 i0 8 Tryz.underlying24 hi hz0 hz1 hz2 _ _ _ rfl (HRW.out.alloc _) _ 1 1 [(2 : Int)] rfl (Rd.lit wr 3 (0, 0) [(2 : Int)] (fun z hz => by rw [List.mem_singleton.1 hz]; decide)) (by decide) (by decide) (le_alloc HB.out.size) ?_; intro v2 w2 hown2 hgr2)
        go_roundw
        case rel => exact ⟨3, by omega, by go_num, hown2, (HB.out.alloc HB.out.size _).grown hgr2 (le_alloc HB.out.size) (fun z hz => (HRW.out.lt z hz).1)⟩
        case measure => simp [intOf]
      · obtain rfl : m = 7 := by have := HMI.out; omega
        go_wp2_with (at_builtin; refine wpList_append_ints rfl (.tmp 14) (.tmp 16) 24 rfl .i64 w.heap.size 3 i0 8 Tryz.underlying24 hi hz0 hz1 hz2 _ _ _ rfl (HRW.out.alloc _) _ 1 1 [(2 : Int)] rfl (Rd.lit wr 3 (0, 0) [(2 : Int)] (fun z hz => by rw [List.mem_singleton.1 hz]; decide)) (by decide) (by decide) (le_alloc HB.out.size) ?_; intro v2 w2 hown2 hgr2)
        go_roundw
        case rel => exact ⟨3, by omega, by go_num, hown2, (HB.out.alloc HB.out.size _).grown hgr2 (le_alloc HB.out.size) (fun z hz => (HRW.out.lt z hz).1)⟩
        case measure => simp [intOf]
    · clear h8
      go_wp2
      go_ret
      obtain ⟨A, c, e, h1, h2, -, h4⟩ := own_slice HRW.out
      subst e
      exact ⟨A, c, rfl, Rd.own HRW.out (ids_wf n HN.out), h1, h2, HB.out, fun a ha => (h4 a ha).1⟩
theorem lawIds (n : Nat) (hn : n < 8) (w : World) : Calls Tryz.prog 29 #[.int .u16 (n : Int)] w (GotIds w (idsM n)) := lawIdsI n n rfl hn w
end Go.Proofs.YtimbbfneaaglbaaGreat.Trace
