/-
  Records of a right log, one by one, read whole and up to a fault, as plain lists (for P12.1, P12.2). By an AI agent.
  Records that are read one by one, as plain lists: where each stands, and what stands behind the last one (for P12.3). By an AI agent.
  A log read record by record tells what Decode tells, as plain lists (P12.3). By an AI agent.
  Where the records of a log begin that can be read up to a place (stage 13, the landed code). By an AI agent.
-/
import Derived.Test.YtimbbfneaaglbaaGHeadsApart33
import Derived.Test.YtimbbfneaaglbaaGHeadsApart29
import Derived.Test.YtimbbfneaaglbaaGHeadsApart21
import Derived.Test.YtimbbfneaaglbaaGHeadsApart22
import Derived.Test.YtimbbfneaaglbaaGHeadsApart18
namespace Go.Proofs.Ytimbbfneaaglbaa.Scan
open Go.Proofs.Ytimbbfneaaglbaa.Ints Go.Proofs.Ytimbbfneaaglbaa.SumMath Go.Proofs.Ytimbbfneaaglbaa.SumWalks Go.Proofs.Ytimbbfneaaglbaa.Trace Go.Proofs.Ytimbbfneaaglbaa.Record Go.Proofs.Ytimbbfneaaglbaa.Log

/-- Where the i-th record of a log stands. -/
def placeL (t : Tr) (i : Nat) : Nat := (headL t.names).length + ((t.events.take i).flatMap recR).length
theorem place_zero (t : Tr) : placeL t 0 = (headL t.names).length := by simp [placeL]
theorem rest_whole (b : List Int) (p : Nat) : restB b b.length (p : Int) = b.drop p := by
  unfold restB
  rw [List.take_of_length_le (Nat.le_refl _), Int.toNat_natCast]
  rcases Nat.le_total p b.length with h | h
  · rw [Nat.min_eq_left h]
  · rw [Nat.min_eq_right h, List.drop_of_length_le (Nat.le_refl _), List.drop_of_length_le h]
/-- The i-th record of a log. -/
theorem place_rec {t : Tr} (h : mayT t = true) (ht : ∀ e ∈ t.events, 0 ≤ e.time ∧ e.time ≤ 18446744073709551615) {i : Nat} (hi : i < t.events.length) :
    errR ((encL t).drop (placeL t i)) (propsR (t.names.length : Int)) = 0 ∧ evR ((encL t).drop (placeL t i)) = t.events.getD i noEv ∧ placeL t (i + 1) = placeL t i + (lenR ((encL t).drop (placeL t i)) + 6) ∧ placeL t i + 14 ≤ placeL t (i + 1) ∧ placeL t (i + 1) ≤ (encL t).length := by
  obtain ⟨h1, h2⟩ := (mayT_iff t).1 h
  have h64 := ((namesOk_iff _).1 h1).1
  have he : encL t = headL t.names ++ t.events.flatMap recR := by unfold encL; rw [if_pos h]
  have hsp : t.events = t.events.take i ++ t.events.getD i noEv :: t.events.drop (i + 1) := by
    have e : t.events.getD i noEv = t.events[i] := by simp [List.getD, hi]
    rw [e]
    simp
  obtain ⟨ev, hev⟩ : ∃ ev, t.events.getD i noEv = ev := ⟨_, rfl⟩
  have hmem : ev ∈ t.events := by rw [← hev]; simp [List.getD, hi]
  rw [hev] at hsp ⊢
  have hfl : t.events.flatMap recR = (t.events.take i).flatMap recR ++ (recR ev ++ (t.events.drop (i + 1)).flatMap recR) := by
    conv => lhs; rw [hsp]
    rw [List.flatMap_append, List.flatMap_cons]
  have hd : (encL t).drop (placeL t i) = recR ev ++ (t.events.drop (i + 1)).flatMap recR := by
    rw [he, hfl]
    unfold placeL
    rw [← List.append_assoc, ← List.length_append, List.drop_left]
  have hids := evs_ids h2 ev hmem
  obtain ⟨t0, t1⟩ := ht ev hmem
  obtain ⟨k1, k2, k3⟩ := rec_get (p := (t.names.length : Int)) ⟨by omega, by omega⟩ hids t0 t1 ((t.events.drop (i + 1)).flatMap recR)
  have htk : t.events.take (i + 1) = t.events.take i ++ [ev] := by
    rw [List.take_add_one, List.getElem?_eq_getElem hi]
    have e : t.events.getD i noEv = t.events[i] := by simp [List.getD, hi]
    rw [← hev, e]
    rfl
  have hpl : placeL t (i + 1) = placeL t i + (recR ev).length := by
    unfold placeL
    rw [htk, List.flatMap_append, List.length_append, List.flatMap_cons, List.flatMap_nil, List.append_nil]
    omega
  have hrl := rec_len ev
  rw [hd]
  refine ⟨k1, k2, ?_, ?_, ?_⟩
  · rw [hpl, k3]
    omega
  · omega
  · rw [hpl, he, hfl]
    unfold placeL
    simp only [List.length_append]
    omega
/-- The i-th record, read whole. -/
theorem scan_whole {t : Tr} (h : mayT t = true) (ht : ∀ e ∈ t.events, 0 ≤ e.time ∧ e.time ≤ 18446744073709551615) {i : Nat} (hi : i < t.events.length) :
    scanE (encL t) (encL t).length (placeL t i : Nat) (t.names.length : Int) = 0 ∧ scanV (encL t) (encL t).length (placeL t i : Nat) (t.names.length : Int) = t.events.getD i noEv ∧ scanN (encL t) (encL t).length (placeL t i : Nat) (t.names.length : Int) = placeL t (i + 1) := by
  obtain ⟨k1, k2, k3, k4, k5⟩ := place_rec h ht hi
  have hg := get_ok k1
  have hE : scanE (encL t) (encL t).length (placeL t i : Nat) (t.names.length : Int) = 0 := by
    unfold scanE
    rw [if_neg (by omega), if_neg (by omega), if_neg (fun e => absurd e.1 (Nat.lt_irrefl _)), rest_whole]
    exact k1
  refine ⟨hE, ?_, ?_⟩
  · unfold scanV
    rw [if_pos hE, rest_whole, hg.1, k2]
  · unfold scanN
    rw [if_pos hE, rest_whole, hg.2.1, Int.toNat_natCast, k3]
/-- The i-th record, read up to a fault. -/
theorem scan_cut {t : Tr} (h : mayT t = true) (ht : ∀ e ∈ t.events, 0 ≤ e.time ∧ e.time ≤ 18446744073709551615) {i k : Nat} (hi : i < t.events.length) (hk : k < (encL t).length) :
    (placeL t (i + 1) ≤ k → scanE (encL t) k (placeL t i : Nat) (t.names.length : Int) = 0 ∧ scanV (encL t) k (placeL t i : Nat) (t.names.length : Int) = t.events.getD i noEv) ∧
    (¬ placeL t (i + 1) ≤ k → scanE (encL t) k (placeL t i : Nat) (t.names.length : Int) = 10) := by
  obtain ⟨k1, k2, k3, k4, k5⟩ := place_rec h ht hi
  have h64 := ((namesOk_iff _).1 ((mayT_iff t).1 h).1).1
  have hg := get_ok k1
  obtain ⟨r1, r2⟩ := rec_cut (b := encL t) (fun z hz => enc_bytes t z hz) (p := placeL t i) (f := k) (props := (t.names.length : Int)) ⟨by omega, by omega⟩ k1 (by omega) (by omega)
  rw [← k3] at r1 r2
  refine ⟨fun hc => ?_, fun hc => ?_⟩
  · rw [if_pos hc] at r1
    have hE : scanE (encL t) k (placeL t i : Nat) (t.names.length : Int) = 0 := by
      unfold scanE
      rw [if_neg (by omega), if_neg (by omega), r1, if_neg (fun e => by rcases e.2 with e | e <;> cases e)]
    refine ⟨hE, ?_⟩
    unfold scanV
    rw [if_pos hE, (r2 hc).1, hg.1, k2]
  · rw [if_neg hc] at r1
    unfold scanE
    rw [if_neg (by omega), if_neg (by omega), if_pos ⟨hk, by rw [r1]; split; exact Or.inl rfl; exact Or.inr rfl⟩]
end Go.Proofs.Ytimbbfneaaglbaa.Scan

namespace Go.Proofs.Ytimbbfneaaglbaa.Log
open Go.Proofs.Ytimbbfneaaglbaa.Ints Go.Proofs.Ytimbbfneaaglbaa.SumMath Go.Proofs.Ytimbbfneaaglbaa.SumWalks Go.Proofs.Ytimbbfneaaglbaa.Trace Go.Proofs.Ytimbbfneaaglbaa.Record

/-- Where the i-th record behind a place stands. -/
def placeD (b : List Int) (p : Nat) : Nat → Nat
  | 0 => p
  | i + 1 => placeD b p i + (lenR (b.drop (placeD b p i)) + 6)
theorem place_shift (b : List Int) (p : Nat) : ∀ i, placeD b (p + (lenR (b.drop p) + 6)) i = placeD b p (i + 1) := by
  intro i
  induction i with
  | zero => rfl
  | succ i ih => rw [placeD, ih]; rfl
/-- The time ahead of the i-th record. -/
def timeD (last : Int) (l : List Ev) : Nat → Int
  | 0 => last
  | i + 1 => (l.getD i noEv).time
/-- What recsD tells, record by record. -/
theorem recs_walk (b : List Int) (props : Int) : ∀ (f p : Nat) (last : Int) (es : List Ev), b.length < f + p → ∃ l, (recsD b props f p last es).1 = es ++ l ∧
    (∀ i, i < l.length → errR (b.drop (placeD b p i)) (propsR props) = 0 ∧ evR (b.drop (placeD b p i)) = l.getD i noEv ∧ timeD last l i ≤ (l.getD i noEv).time ∧ placeD b p (i + 1) ≤ b.length ∧ placeD b p i + 14 ≤ placeD b p (i + 1)) ∧
    (((recsD b props f p last es).2 = errR (b.drop (placeD b p l.length)) (propsR props) ∧ (recsD b props f p last es).2 ≠ 0) ∨
      ((recsD b props f p last es).2 = 8 ∧ errR (b.drop (placeD b p l.length)) (propsR props) = 0 ∧ (evR (b.drop (placeD b p l.length))).time < timeD last l l.length)) := by
  intro f
  induction f with
  | zero =>
    intro p last es hp
    have hd : b.drop p = [] := List.drop_of_length_le (by omega)
    refine ⟨[], by simp [recsD], fun i hi => by simp at hi, Or.inl ⟨?_, ?_⟩⟩
    · show (13 : Nat) = errR (b.drop p) (propsR props)
      rw [hd]
      rfl
    · show (13 : Nat) ≠ 0
      decide
  | succ f ih =>
    intro p last es hp
    by_cases h1 : errR (b.drop p) (propsR props) = 0
    · by_cases h2 : (evR (b.drop p)).time < last
      · rw [recsD_time f h1 h2]
        exact ⟨[], by simp, fun i hi => by simp at hi, Or.inr ⟨rfl, h1, h2⟩⟩
      · rw [recsD_next f h1 h2]
        obtain ⟨g1, g2, g3, g4⟩ := get_ok h1
        have hl : (b.drop p).length = b.length - p := List.length_drop
        obtain ⟨l, k1, k2, k3⟩ := ih (p + (lenR (b.drop p) + 6)) (evR (b.drop p)).time (es ++ [evR (b.drop p)]) (by omega)
        refine ⟨evR (b.drop p) :: l, by rw [k1]; simp, fun i hi => ?_, ?_⟩
        · rcases i with _ | i
          · exact ⟨h1, rfl, by show last ≤ _; simp; omega, by show p + (lenR (b.drop p) + 6) ≤ b.length; omega, by show p + 14 ≤ p + (lenR (b.drop p) + 6); omega⟩
          · have hi2 : i < l.length := by simpa using hi
            obtain ⟨j1, j2, j3, j4, j5⟩ := k2 i hi2
            simp only [place_shift] at j1 j2 j4 j5
            have e : (evR (b.drop p) :: l).getD (i + 1) noEv = l.getD i noEv := by simp
            refine ⟨j1, by rw [e]; exact j2, ?_, j4, j5⟩
            rw [e]
            rcases i with _ | i
            · exact j3
            · exact j3
        · rw [List.length_cons]
          rw [place_shift] at k3
          have e : timeD (evR (b.drop p)).time l l.length = timeD last (evR (b.drop p) :: l) (l.length + 1) := by
            rcases hll : l.length with _ | m
            · rfl
            · simp [timeD]
          rw [e] at k3
          exact k3
    · rw [recsD_err f rfl h1]
      exact ⟨[], by simp, fun i hi => by simp at hi, Or.inl ⟨rfl, h1⟩⟩
end Go.Proofs.Ytimbbfneaaglbaa.Log

namespace Go.Proofs.Ytimbbfneaaglbaa.Scan
open Go.Proofs.Ytimbbfneaaglbaa.Ints Go.Proofs.Ytimbbfneaaglbaa.SumMath Go.Proofs.Ytimbbfneaaglbaa.SumWalks Go.Proofs.Ytimbbfneaaglbaa.Trace Go.Proofs.Ytimbbfneaaglbaa.Record Go.Proofs.Ytimbbfneaaglbaa.Log

theorem err_which (b : List Int) (p : Int) : errR b p = 0 ∨ errR b p = 13 ∨ errR b p = 7 ∨ errR b p = 2 ∨ errR b p = 6 ∨ errR b p = 9 := by
  have hs : sizeE b p = 0 ∨ sizeE b p = 13 ∨ sizeE b p = 7 ∨ sizeE b p = 2 := by
    unfold sizeE
    repeat' split
    all_goals omega
  unfold errR
  repeat' split
  all_goals omega
/-- Any place of bytes without a fault. -/
theorem scan_any {b : List Int} {p : Nat} {props : Int} : scanE b b.length (p : Nat) props = errR (b.drop p) (propsR props) := by
  unfold scanE
  rw [if_neg (by omega)]
  by_cases h : (b.length : Int) ≤ (p : Int)
  · rw [if_pos h, List.drop_of_length_le (by omega)]
    rfl
  · rw [if_neg h, if_neg (fun e => absurd e.1 (Nat.lt_irrefl _)), rest_whole]
theorem scan_val {b : List Int} {p : Nat} {props : Int} (h : errR (b.drop p) (propsR props) = 0) : scanV b b.length (p : Nat) props = evR (b.drop p) ∧ scanN b b.length (p : Nat) props = p + (lenR (b.drop p) + 6) := by
  have hE : scanE b b.length (p : Nat) props = 0 := by rw [scan_any, h]
  have hg := get_ok h
  unfold scanV scanN
  rw [if_pos hE, if_pos hE, rest_whole, hg.1, hg.2.1, Int.toNat_natCast]
  exact ⟨rfl, rfl⟩
theorem headF_any (b : List Int) : headF b b.length = headD b 5 := by
  unfold headF
  rw [if_neg (Nat.lt_irrefl _), List.take_of_length_le (Nat.le_refl _)]
/-- What Decode tells, record by record. -/
theorem dec_walk {b : List Int} (hb : ∀ z ∈ b, 0 ≤ z ∧ z ≤ 255) (h : (headD b 5).2.2 = 0) :
    (decT b).names = (headD b 5).1 ∧ decE b ≠ 5 ∧
    (∀ i, i < (decT b).events.length → scanE b b.length (placeD b (headD b 5).2.1 i : Nat) ((headD b 5).1.length : Int) = 0 ∧ scanV b b.length (placeD b (headD b 5).2.1 i : Nat) ((headD b 5).1.length : Int) = (decT b).events.getD i noEv ∧
      scanN b b.length (placeD b (headD b 5).2.1 i : Nat) ((headD b 5).1.length : Int) = placeD b (headD b 5).2.1 (i + 1) ∧ placeD b (headD b 5).2.1 i < placeD b (headD b 5).2.1 (i + 1) ∧ placeD b (headD b 5).2.1 (i + 1) ≤ b.length) ∧
    ((decE b = 0 ∧ scanE b b.length (placeD b (headD b 5).2.1 (decT b).events.length : Nat) ((headD b 5).1.length : Int) = 13) ∨
      (decE b = 8 ∧ scanE b b.length (placeD b (headD b 5).2.1 (decT b).events.length : Nat) ((headD b 5).1.length : Int) = 0 ∧ 0 < (decT b).events.length ∧
        (scanV b b.length (placeD b (headD b 5).2.1 (decT b).events.length : Nat) ((headD b 5).1.length : Int)).time < ((decT b).events.getD ((decT b).events.length - 1) noEv).time) ∨
      (decE b ≠ 0 ∧ decE b ≠ 8 ∧ scanE b b.length (placeD b (headD b 5).2.1 (decT b).events.length : Nat) ((headD b 5).1.length : Int) = decE b)) := by
  obtain ⟨R, hR⟩ : ∃ R, recsD b ((headD b 5).1.length : Int) (b.length + 1) (headD b 5).2.1 0 [] = R := ⟨_, rfl⟩
  have hrec : recordsD b = (⟨(headD b 5).1, R.1⟩, R.2) := by
    unfold recordsD
    rw [if_neg (fun e => e h), hR]
  have hT : decT b = ⟨(headD b 5).1, R.1⟩ := by unfold decT; rw [hrec]
  have hE : decE b = if R.2 = 13 then 0 else R.2 := by unfold decE; rw [hrec]
  obtain ⟨l, k1, k2, k3⟩ := recs_walk b ((headD b 5).1.length : Int) (b.length + 1) (headD b 5).2.1 0 [] (by omega)
  rw [hR, List.nil_append] at k1
  rw [hR] at k3
  rw [hT, hE]
  show (headD b 5).1 = (headD b 5).1 ∧ _ ∧ (∀ i, i < R.1.length → _ ∧ scanV _ _ _ _ = R.1.getD i noEv ∧ _) ∧ _
  rw [k1]
  obtain ⟨p0, hp0⟩ : ∃ p0, (headD b 5).2.1 = p0 := ⟨_, rfl⟩
  obtain ⟨q, hq⟩ : ∃ q : Int, ((headD b 5).1.length : Int) = q := ⟨_, rfl⟩
  rw [hp0, hq] at k2 k3 ⊢
  have hw := err_which (b.drop (placeD b p0 l.length)) (propsR q)
  refine ⟨rfl, ?_, fun i hi => ?_, ?_⟩
  · rcases k3 with ⟨e1, -⟩ | ⟨e1, -⟩
    · split
      · decide
      · omega
    · rw [e1]; decide
  · obtain ⟨j1, j2, j3, j4, j5⟩ := k2 i hi
    obtain ⟨v1, v2⟩ := scan_val j1
    exact ⟨by rw [scan_any, j1], by rw [v1, j2], v2, by omega, j4⟩
  · show (_ ∧ scanE b b.length (placeD b p0 l.length : Nat) q = 13) ∨ (_ ∧ scanE b b.length (placeD b p0 l.length : Nat) q = 0 ∧ 0 < l.length ∧ (scanV b b.length (placeD b p0 l.length : Nat) q).time < (l.getD (l.length - 1) noEv).time) ∨ (_ ∧ _ ∧ scanE b b.length (placeD b p0 l.length : Nat) q = _)
    rw [scan_any]
    rcases k3 with ⟨e1, e2⟩ | ⟨e1, e2, e3⟩
    · rw [← e1] at hw ⊢
      by_cases h13 : R.2 = 13
      · rw [if_pos h13]
        exact Or.inl ⟨rfl, h13⟩
      · rw [if_neg h13]
        exact Or.inr (Or.inr ⟨e2, by omega, rfl⟩)
    · refine Or.inr (Or.inl ⟨by rw [e1]; rfl, e2, ?_, ?_⟩)
      · rcases Nat.eq_zero_or_pos l.length with h0 | h0
        · rw [h0] at e3
          have := (ev_time (b := b.drop (placeD b p0 0)) (fun z hz => hb z (List.mem_of_mem_drop hz))).1
          simp only [timeD] at e3
          omega
        · exact h0
      · rw [(scan_val e2).1]
        rcases hl : l.length with _ | m
        · rw [hl] at e3
          have := (ev_time (b := b.drop (placeD b p0 0)) (fun z hz => hb z (List.mem_of_mem_drop hz))).1
          simp only [timeD] at e3
          omega
        · rw [hl] at e3
          exact e3
theorem dec_bad {b : List Int} (h : (headD b 5).2.2 ≠ 0) : headD b 5 = ([], 0, 5) ∧ decT b = noTr ∧ decE b = 5 := by
  have e := head_miss h
  refine ⟨e, ?_, ?_⟩
  · unfold decT recordsD; rw [if_pos h]
  · unfold decE recordsD; rw [if_pos h, e]; rfl
end Go.Proofs.Ytimbbfneaaglbaa.Scan

namespace Go.Proofs.Ytimbbfneaaglbaa.Heads
open Go.Proofs.Ytimbbfneaaglbaa.Ints Go.Proofs.Ytimbbfneaaglbaa.Trace Go.Proofs.Ytimbbfneaaglbaa.Record Go.Proofs.Ytimbbfneaaglbaa.Log Go.Proofs.Ytimbbfneaaglbaa.Src Go.Proofs.Ytimbbfneaaglbaa.Scan

theorem rest_at {b : List Int} {f p : Nat} (hp : p ≤ f) : restB b f (p : Nat) = (b.take f).drop p := by
  unfold restB
  rw [Int.toNat_natCast, Nat.min_eq_left hp]
theorem scan_at {b : List Int} {f p : Nat} {props : Int} (hf : f ≤ b.length) (hp : p ≤ f) :
    scanE b f (p : Nat) props = if f < b.length then mapE (errR ((b.take f).drop p) (propsR props)) else errR ((b.take f).drop p) (propsR props) := by
  unfold scanE
  rw [if_neg (by omega), rest_at hp]
  by_cases h : (b.length : Int) ≤ (p : Int)
  · rw [if_pos h, if_neg (by omega), List.drop_of_length_le (by rw [List.length_take]; omega)]
    rfl
  · rw [if_neg h]
    unfold mapE
    by_cases h1 : f < b.length
    · rw [if_pos h1]
      split
      · rename_i h2
        rw [if_pos h2.2]
      · rename_i h2
        rw [if_neg (fun e => h2 ⟨h1, e⟩)]
    · rw [if_neg h1, if_neg (fun e => h1 e.1)]
theorem scan_at_val {b : List Int} {f p : Nat} {props : Int} (hf : f ≤ b.length) (hp : p ≤ f) (h : errR ((b.take f).drop p) (propsR props) = 0) :
    scanE b f (p : Nat) props = 0 ∧ scanV b f (p : Nat) props = evR ((b.take f).drop p) ∧ scanN b f (p : Nat) props = p + (lenR ((b.take f).drop p) + 6) := by
  have hE : scanE b f (p : Nat) props = 0 := by rw [scan_at hf hp, h]; split <;> rfl
  have hg := get_ok h
  unfold scanV scanN
  rw [if_pos hE, if_pos hE, rest_at hp, hg.1, hg.2.1, Int.toNat_natCast]
  exact ⟨hE, rfl, rfl⟩
/-- A log that is read record by record. -/
structure Walk (b : List Int) (f : Nat) (t : Tr) (er : Nat) (pl : Nat → Nat) : Prop where
  rec_ : ∀ k, k < t.events.length → scanE b f (pl k : Nat) (t.names.length : Int) = 0 ∧ scanV b f (pl k : Nat) (t.names.length : Int) = t.events.getD k noEv ∧ scanN b f (pl k : Nat) (t.names.length : Int) = pl (k + 1) ∧ timeD 0 t.events k ≤ (t.events.getD k noEv).time
  last : (scanE b f (pl t.events.length : Nat) (t.names.length : Int) = er ∧ er ≠ 0) ∨ (er = 8 ∧ scanE b f (pl t.events.length : Nat) (t.names.length : Int) = 0 ∧ (scanV b f (pl t.events.length : Nat) (t.names.length : Int)).time < timeD 0 t.events t.events.length)
  le : ∀ k, k ≤ t.events.length → pl k ≤ f
  far : ∀ k, k ≤ t.events.length → 14 * k ≤ pl k
theorem place_far {b : List Int} {p : Nat} {l : List Ev} (h : ∀ i, i < l.length → placeD b p (i + 1) ≤ b.length ∧ placeD b p i + 14 ≤ placeD b p (i + 1)) (hp : p ≤ b.length) : ∀ k, k ≤ l.length → placeD b p k ≤ b.length ∧ 14 * k ≤ placeD b p k := by
  intro k
  induction k with
  | zero => intro _; exact ⟨hp, by omega⟩
  | succ k ih =>
    intro hk
    have h1 := ih (by omega)
    have h2 := h k (by omega)
    exact ⟨h2.1, by omega⟩
theorem walk_of {b : List Int} {f : Nat} (hf : f ≤ b.length) {t : Tr} {er e0 p : Nat} {last : Int} (hl : last = 0) (hp : p ≤ f)
    (h1 : t.events = (recsD (b.take f) (t.names.length : Int) ((b.take f).length + 1) p last []).1) (h2 : e0 = (recsD (b.take f) (t.names.length : Int) ((b.take f).length + 1) p last []).2) (h3 : er = if f < b.length then mapE e0 else e0) :
    Walk b f t er (placeD (b.take f) p) := by
  have hlen : (b.take f).length = f := by rw [List.length_take]; omega
  obtain ⟨l, r1, r2, r3⟩ := recs_walk (b.take f) (t.names.length : Int) ((b.take f).length + 1) p last [] (by omega)
  rw [List.nil_append, ← h1] at r1
  rw [← h2] at r3
  subst hl
  rw [← r1] at r2 r3
  have hfar := place_far (b := b.take f) (p := p) (l := t.events) (fun i hi => (r2 i hi).2.2.2) (by omega)
  rw [hlen] at hfar
  refine ⟨fun k hk => ?_, ?_, fun k hk => (hfar k hk).1, fun k hk => (hfar k hk).2⟩
  · obtain ⟨a1, a2, a3, a4, a5⟩ := r2 k hk
    obtain ⟨s1, s2, s3⟩ := scan_at_val hf (hfar k (by omega)).1 a1
    exact ⟨s1, by rw [s2, a2], by rw [s3]; rfl, a3⟩
  · have hple := (hfar t.events.length (Nat.le_refl _)).1
    rcases r3 with ⟨a1, a2⟩ | ⟨a1, a2, a3⟩
    · refine .inl ⟨?_, ?_⟩
      · rw [scan_at hf hple, ← a1, h3]
      · rw [h3]
        split
        · unfold mapE; split <;> omega
        · exact a2
    · obtain ⟨s1, s2, s3⟩ := scan_at_val hf hple a2
      refine .inr ⟨?_, s1, by rw [s2]; exact a3⟩
      rw [h3, a1]
      split <;> rfl
theorem walk_start {b : List Int} {f : Nat} (hf : f ≤ b.length) (h : headE b f = 0) : Walk b f (recordsF b f).1 (recordsF b f).2 (placeD (b.take f) (headF b f).2.1) ∧ (headF b f).2.1 ≤ f := by
  have hE : headE b f = (headD (b.take f) (if f < b.length then 10 else 5)).2.2 := rfl
  have hF : headF b f = headD (b.take f) (if f < b.length then 10 else 5) := rfl
  have hlen : (b.take f).length = f := by rw [List.length_take]; omega
  by_cases h1 : f < b.length
  · rw [if_pos h1] at hE hF
    rw [hE] at h
    have hpl := (head_place (by decide) h).2
    rw [hlen] at hpl
    have e1 : recordsF b f = (⟨(headD (b.take f) 10).1, (recsD (b.take f) (headD (b.take f) 10).1.length ((b.take f).length + 1) (headD (b.take f) 10).2.1 0 []).1⟩, mapE (recsD (b.take f) (headD (b.take f) 10).1.length ((b.take f).length + 1) (headD (b.take f) 10).2.1 0 []).2) := by
      unfold recordsF recordsC
      rw [if_pos h1, if_neg (by rw [h]; exact fun e => e rfl)]
    rw [e1, hF]
    exact ⟨walk_of hf rfl hpl rfl rfl (by rw [if_pos h1]), hpl⟩
  · have hfe : f = b.length := by omega
    rw [if_neg h1] at hE hF
    rw [hE] at h
    have hpl := (head_place (by decide) h).2
    rw [hlen] at hpl
    have et : b.take f = b := List.take_of_length_le (by omega)
    have e1 : recordsF b f = (⟨(headD (b.take f) 5).1, (recsD (b.take f) (headD (b.take f) 5).1.length ((b.take f).length + 1) (headD (b.take f) 5).2.1 0 []).1⟩, (recsD (b.take f) (headD (b.take f) 5).1.length ((b.take f).length + 1) (headD (b.take f) 5).2.1 0 []).2) := by
      rw [et] at h ⊢
      unfold recordsF recordsD
      rw [if_neg h1, if_neg (by rw [h]; exact fun e => e rfl)]
    rw [e1, hF]
    exact ⟨walk_of hf rfl hpl rfl rfl (by rw [if_neg h1]), hpl⟩
end Go.Proofs.Ytimbbfneaaglbaa.Heads
