/-
  A log read record by record tells what Decode tells, as plain lists (P12.3). By an AI agent.
-/
import Derived.Test.YtbbjoffknoaoiaaGScanAny43
import Derived.Test.YtbbjoffknoaoiaaGScanAny25
import Derived.Test.YtbbjoffknoaoiaaGScanAny23
namespace Go.Proofs.Ytbbjoffknoaoiaa.Scan
open Go.Proofs.Ytbbjoffknoaoiaa.Ints Go.Proofs.Ytbbjoffknoaoiaa.SumMath Go.Proofs.Ytbbjoffknoaoiaa.SumWalks Go.Proofs.Ytbbjoffknoaoiaa.Trace Go.Proofs.Ytbbjoffknoaoiaa.Record Go.Proofs.Ytbbjoffknoaoiaa.Log

theorem err_which (b : List Int) (p : Int) : errR b p = 0 ∨ errR b p = 13 ∨ errR b p = 7 ∨ errR b p = 2 ∨ errR b p = 6 ∨ errR b p = 9 := by
  have hs : sizeE b p = 0 ∨ sizeE b p = 13 ∨ sizeE b p = 7 ∨ sizeE b p = 2 := by
    unfold sizeE
    repeat' split
    all_goals omega
  unfold errR
  repeat' split
  all_goals omega
/-- Any place of bytes without a fault. -/
theorem scan_any {b : List Int} {p : Nat} {props : Int} : scanE b b.length (p : Nat) props = errR (b.drop p) (propsR props) := by
  unfold scanE
  rw [if_neg (by omega)]
  by_cases h : (b.length : Int) ≤ (p : Int)
  · rw [if_pos h, List.drop_of_length_le (by omega)]
    rfl
  · rw [if_neg h, if_neg (fun e => absurd e.1 (Nat.lt_irrefl _)), rest_whole]
theorem scan_val {b : List Int} {p : Nat} {props : Int} (h : errR (b.drop p) (propsR props) = 0) : scanV b b.length (p : Nat) props = evR (b.drop p) ∧ scanN b b.length (p : Nat) props = p + (lenR (b.drop p) + 6) := by
  have hE : scanE b b.length (p : Nat) props = 0 := by rw [scan_any, h]
  have hg := get_ok h
  unfold scanV scanN
  rw [if_pos hE, if_pos hE, rest_whole, hg.1, hg.2.1, Int.toNat_natCast]
  exact ⟨rfl, rfl⟩
theorem headF_any (b : List Int) : headF b b.length = headD b 5 := by
  unfold headF
  rw [if_neg (Nat.lt_irrefl _), List.take_of_length_le (Nat.le_refl _)]
/-- What Decode tells, record by record. -/
theorem dec_walk {b : List Int} (hb : ∀ z ∈ b, 0 ≤ z ∧ z ≤ 255) (h : (headD b 5).2.2 = 0) :
    (decT b).names = (headD b 5).1 ∧ decE b ≠ 5 ∧
    (∀ i, i < (decT b).events.length → scanE b b.length (placeD b (headD b 5).2.1 i : Nat) ((headD b 5).1.length : Int) = 0 ∧ scanV b b.length (placeD b (headD b 5).2.1 i : Nat) ((headD b 5).1.length : Int) = (decT b).events.getD i noEv ∧
      scanN b b.length (placeD b (headD b 5).2.1 i : Nat) ((headD b 5).1.length : Int) = placeD b (headD b 5).2.1 (i + 1) ∧ placeD b (headD b 5).2.1 i < placeD b (headD b 5).2.1 (i + 1) ∧ placeD b (headD b 5).2.1 (i + 1) ≤ b.length) ∧
    ((decE b = 0 ∧ scanE b b.length (placeD b (headD b 5).2.1 (decT b).events.length : Nat) ((headD b 5).1.length : Int) = 13) ∨
      (decE b = 8 ∧ scanE b b.length (placeD b (headD b 5).2.1 (decT b).events.length : Nat) ((headD b 5).1.length : Int) = 0 ∧ 0 < (decT b).events.length ∧
        (scanV b b.length (placeD b (headD b 5).2.1 (decT b).events.length : Nat) ((headD b 5).1.length : Int)).time < ((decT b).events.getD ((decT b).events.length - 1) noEv).time) ∨
      (decE b ≠ 0 ∧ decE b ≠ 8 ∧ scanE b b.length (placeD b (headD b 5).2.1 (decT b).events.length : Nat) ((headD b 5).1.length : Int) = decE b)) := by
  obtain ⟨R, hR⟩ : ∃ R, recsD b ((headD b 5).1.length : Int) (b.length + 1) (headD b 5).2.1 0 [] = R := ⟨_, rfl⟩
  have hrec : recordsD b = (⟨(headD b 5).1, R.1⟩, R.2) := by
    unfold recordsD
    rw [if_neg (fun e => e h), hR]
  have hT : decT b = ⟨(headD b 5).1, R.1⟩ := by unfold decT; rw [hrec]
  have hE : decE b = if R.2 = 13 then 0 else R.2 := by unfold decE; rw [hrec]
  obtain ⟨l, k1, k2, k3⟩ := recs_walk b ((headD b 5).1.length : Int) (b.length + 1) (headD b 5).2.1 0 [] (by omega)
  rw [hR, List.nil_append] at k1
  rw [hR] at k3
  rw [hT, hE]
  show (headD b 5).1 = (headD b 5).1 ∧ _ ∧ (∀ i, i < R.1.length → _ ∧ scanV _ _ _ _ = R.1.getD i noEv ∧ _) ∧ _
  rw [k1]
  obtain ⟨p0, hp0⟩ : ∃ p0, (headD b 5).2.1 = p0 := ⟨_, rfl⟩
  obtain ⟨q, hq⟩ : ∃ q : Int, ((headD b 5).1.length : Int) = q := ⟨_, rfl⟩
  rw [hp0, hq] at k2 k3 ⊢
  have hw := err_which (b.drop (placeD b p0 l.length)) (propsR q)
  refine ⟨rfl, ?_, fun i hi => ?_, ?_⟩
  · rcases k3 with ⟨e1, -⟩ | ⟨e1, -⟩
    · split
      · decide
      · omega
    · rw [e1]; decide
  · obtain ⟨j1, j2, j3, j4, j5⟩ := k2 i hi
    obtain ⟨v1, v2⟩ := scan_val j1
    exact ⟨by rw [scan_any, j1], by rw [v1, j2], v2, by omega, j4⟩
  · show (_ ∧ scanE b b.length (placeD b p0 l.length : Nat) q = 13) ∨ (_ ∧ scanE b b.length (placeD b p0 l.length : Nat) q = 0 ∧ 0 < l.length ∧ (scanV b b.length (placeD b p0 l.length : Nat) q).time < (l.getD (l.length - 1) noEv).time) ∨ (_ ∧ _ ∧ scanE b b.length (placeD b p0 l.length : Nat) q = _)
    rw [scan_any]
    rcases k3 with ⟨e1, e2⟩ | ⟨e1, e2, e3⟩
    · rw [← e1] at hw ⊢
      by_cases h13 : R.2 = 13
      · rw [if_pos h13]
        exact Or.inl ⟨rfl, h13⟩
      · rw [if_neg h13]
        exact Or.inr (Or.inr ⟨e2, by omega, rfl⟩)
    · refine Or.inr (Or.inl ⟨by rw [e1]; rfl, e2, ?_, ?_⟩)
      · rcases Nat.eq_zero_or_pos l.length with h0 | h0
        · rw [h0] at e3
          have := (ev_time (b := b.drop (placeD b p0 0)) (fun z hz => hb z (List.mem_of_mem_drop hz))).1
          simp only [timeD] at e3
          omega
        · exact h0
      · rw [(scan_val e2).1]
        rcases hl : l.length with _ | m
        · rw [hl] at e3
          have := (ev_time (b := b.drop (placeD b p0 0)) (fun z hz => hb z (List.mem_of_mem_drop hz))).1
          simp only [timeD] at e3
          omega
        · rw [hl] at e3
          exact e3
theorem dec_bad {b : List Int} (h : (headD b 5).2.2 ≠ 0) : headD b 5 = ([], 0, 5) ∧ decT b = noTr ∧ decE b = 5 := by
  have e := head_miss h
  refine ⟨e, ?_, ?_⟩
  · unfold decT recordsD; rw [if_pos h]
  · unfold decE recordsD; rw [if_pos h, e]; rfl
end Go.Proofs.Ytbbjoffknoaoiaa.Scan
