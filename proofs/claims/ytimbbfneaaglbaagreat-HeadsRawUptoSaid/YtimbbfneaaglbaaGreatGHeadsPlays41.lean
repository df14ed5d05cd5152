/-
  A log read record by record tells what Decode tells, as plain lists (P12.3). By an AI agent.
  Where the records of a log begin that can be read up to a place (stage 13, the landed code). By an AI agent.
  The open heads of a pool as one list, by their ids (stage 13, the landed code). By an AI agent.
  A header read part by part: what is read so far tells what the whole is (stage 12). By an AI agent.
-/
import Derived.Test.YtimbbfneaaglbaaGreatGHeadsPlays40
import Derived.Test.YtimbbfneaaglbaaGreatGHeadsPlays27
import Derived.Test.YtimbbfneaaglbaaGreatGHeadsPlays21
import Derived.Test.YtimbbfneaaglbaaGreatGHeadsPlays23
import Derived.Test.YtimbbfneaaglbaaGreatGHeadsPlays7
import Derived.Test.YtimbbfneaaglbaaGreatGHeadsPlays37
namespace Go.Proofs.YtimbbfneaaglbaaGreat.Scan
open Go.Proofs.YtimbbfneaaglbaaGreat.Ints Go.Proofs.YtimbbfneaaglbaaGreat.SumMath Go.Proofs.YtimbbfneaaglbaaGreat.SumWalks Go.Proofs.YtimbbfneaaglbaaGreat.Trace Go.Proofs.YtimbbfneaaglbaaGreat.Record Go.Proofs.YtimbbfneaaglbaaGreat.Log

theorem err_which (b : List Int) (p : Int) : errR b p = 0 ∨ errR b p = 13 ∨ errR b p = 7 ∨ errR b p = 2 ∨ errR b p = 6 ∨ errR b p = 9 := by
  have hs : sizeE b p = 0 ∨ sizeE b p = 13 ∨ sizeE b p = 7 ∨ sizeE b p = 2 := by
    unfold sizeE
    repeat' split
    all_goals omega
  unfold errR
  repeat' split
  all_goals omega
/-- Any place of bytes without a fault. -/
theorem scan_any {b : List Int} {p : Nat} {props : Int} : scanE b b.length (p : Nat) props = errR (b.drop p) (propsR props) := by
  unfold scanE
  rw [if_neg (by omega)]
  by_cases h : (b.length : Int) ≤ (p : Int)
  · rw [if_pos h, List.drop_of_length_le (by omega)]
    rfl
  · rw [if_neg h, if_neg (fun e => absurd e.1 (Nat.lt_irrefl _)), rest_whole]
theorem scan_val {b : List Int} {p : Nat} {props : Int} (h : errR (b.drop p) (propsR props) = 0) : scanV b b.length (p : Nat) props = evR (b.drop p) ∧ scanN b b.length (p : Nat) props = p + (lenR (b.drop p) + 6) := by
  have hE : scanE b b.length (p : Nat) props = 0 := by rw [scan_any, h]
  have hg := get_ok h
  unfold scanV scanN
  rw [if_pos hE, if_pos hE, rest_whole, hg.1, hg.2.1, Int.toNat_natCast]
  exact ⟨rfl, rfl⟩
theorem headF_any (b : List Int) : headF b b.length = headD b 5 := by
  unfold headF
  rw [if_neg (Nat.lt_irrefl _), List.take_of_length_le (Nat.le_refl _)]
/-- What Decode tells, record by record. -/
theorem dec_walk {b : List Int} (hb : ∀ z ∈ b, 0 ≤ z ∧ z ≤ 255) (h : (headD b 5).2.2 = 0) :
    (decT b).names = (headD b 5).1 ∧ decE b ≠ 5 ∧
    (∀ i, i < (decT b).events.length → scanE b b.length (placeD b (headD b 5).2.1 i : Nat) ((headD b 5).1.length : Int) = 0 ∧ scanV b b.length (placeD b (headD b 5).2.1 i : Nat) ((headD b 5).1.length : Int) = (decT b).events.getD i noEv ∧
      scanN b b.length (placeD b (headD b 5).2.1 i : Nat) ((headD b 5).1.length : Int) = placeD b (headD b 5).2.1 (i + 1) ∧ placeD b (headD b 5).2.1 i < placeD b (headD b 5).2.1 (i + 1) ∧ placeD b (headD b 5).2.1 (i + 1) ≤ b.length) ∧
    ((decE b = 0 ∧ scanE b b.length (placeD b (headD b 5).2.1 (decT b).events.length : Nat) ((headD b 5).1.length : Int) = 13) ∨
      (decE b = 8 ∧ scanE b b.length (placeD b (headD b 5).2.1 (decT b).events.length : Nat) ((headD b 5).1.length : Int) = 0 ∧ 0 < (decT b).events.length ∧
        (scanV b b.length (placeD b (headD b 5).2.1 (decT b).events.length : Nat) ((headD b 5).1.length : Int)).time < ((decT b).events.getD ((decT b).events.length - 1) noEv).time) ∨
      (decE b ≠ 0 ∧ decE b ≠ 8 ∧ scanE b b.length (placeD b (headD b 5).2.1 (decT b).events.length : Nat) ((headD b 5).1.length : Int) = decE b)) := by
  obtain ⟨R, hR⟩ : ∃ R, recsD b ((headD b 5).1.length : Int) (b.length + 1) (headD b 5).2.1 0 [] = R := ⟨_, rfl⟩
  have hrec : recordsD b = (⟨(headD b 5).1, R.1⟩, R.2) := by
    unfold recordsD
    rw [if_neg (fun e => e h), hR]
  have hT : decT b = ⟨(headD b 5).1, R.1⟩ := by unfold decT; rw [hrec]
  have hE : decE b = if R.2 = 13 then 0 else R.2 := by unfold decE; rw [hrec]
  obtain ⟨l, k1, k2, k3⟩ := recs_walk b ((headD b 5).1.length : Int) (b.length + 1) (headD b 5).2.1 0 [] (by omega)
  rw [hR, List.nil_append] at k1
  rw [hR] at k3
  rw [hT, hE]
  show (headD b 5).1 = (headD b 5).1 ∧ _ ∧ (∀ i, i < R.1.length → _ ∧ scanV _ _ _ _ = R.1.getD i noEv ∧ _) ∧ _
  rw [k1]
  obtain ⟨p0, hp0⟩ : ∃ p0, (headD b 5).2.1 = p0 := ⟨_, rfl⟩
  obtain ⟨q, hq⟩ : ∃ q : Int, ((headD b 5).1.length : Int) = q := ⟨_, rfl⟩
  rw [hp0, hq] at k2 k3 ⊢
  have hw := err_which (b.drop (placeD b p0 l.length)) (propsR q)
  refine ⟨rfl, ?_, fun i hi => ?_, ?_⟩
  · rcases k3 with ⟨e1, -⟩ | ⟨e1, -⟩
    · split
      · decide
      · omega
    · rw [e1]; decide
  · obtain ⟨j1, j2, j3, j4, j5⟩ := k2 i hi
    obtain ⟨v1, v2⟩ := scan_val j1
    exact ⟨by rw [scan_any, j1], by rw [v1, j2], v2, by omega, j4⟩
  · show (_ ∧ scanE b b.length (placeD b p0 l.length : Nat) q = 13) ∨ (_ ∧ scanE b b.length (placeD b p0 l.length : Nat) q = 0 ∧ 0 < l.length ∧ (scanV b b.length (placeD b p0 l.length : Nat) q).time < (l.getD (l.length - 1) noEv).time) ∨ (_ ∧ _ ∧ scanE b b.length (placeD b p0 l.length : Nat) q = _)
    rw [scan_any]
    rcases k3 with ⟨e1, e2⟩ | ⟨e1, e2, e3⟩
    · rw [← e1] at hw ⊢
      by_cases h13 : R.2 = 13
      · rw [if_pos h13]
        exact Or.inl ⟨rfl, h13⟩
      · rw [if_neg h13]
        exact Or.inr (Or.inr ⟨e2, by omega, rfl⟩)
    · refine Or.inr (Or.inl ⟨by rw [e1]; rfl, e2, ?_, ?_⟩)
      · rcases Nat.eq_zero_or_pos l.length with h0 | h0
        · rw [h0] at e3
          have := (ev_time (b := b.drop (placeD b p0 0)) (fun z hz => hb z (List.mem_of_mem_drop hz))).1
          simp only [timeD] at e3
          omega
        · exact h0
      · rw [(scan_val e2).1]
        rcases hl : l.length with _ | m
        · rw [hl] at e3
          have := (ev_time (b := b.drop (placeD b p0 0)) (fun z hz => hb z (List.mem_of_mem_drop hz))).1
          simp only [timeD] at e3
          omega
        · rw [hl] at e3
          exact e3
theorem dec_bad {b : List Int} (h : (headD b 5).2.2 ≠ 0) : headD b 5 = ([], 0, 5) ∧ decT b = noTr ∧ decE b = 5 := by
  have e := head_miss h
  refine ⟨e, ?_, ?_⟩
  · unfold decT recordsD; rw [if_pos h]
  · unfold decE recordsD; rw [if_pos h, e]; rfl
end Go.Proofs.YtimbbfneaaglbaaGreat.Scan

namespace Go.Proofs.YtimbbfneaaglbaaGreat.Heads
open Go.Proofs.YtimbbfneaaglbaaGreat.Ints Go.Proofs.YtimbbfneaaglbaaGreat.Trace Go.Proofs.YtimbbfneaaglbaaGreat.Record Go.Proofs.YtimbbfneaaglbaaGreat.Log Go.Proofs.YtimbbfneaaglbaaGreat.Src Go.Proofs.YtimbbfneaaglbaaGreat.Scan

theorem rest_at {b : List Int} {f p : Nat} (hp : p ≤ f) : restB b f (p : Nat) = (b.take f).drop p := by
  unfold restB
  rw [Int.toNat_natCast, Nat.min_eq_left hp]
theorem scan_at {b : List Int} {f p : Nat} {props : Int} (hf : f ≤ b.length) (hp : p ≤ f) :
    scanE b f (p : Nat) props = if f < b.length then mapE (errR ((b.take f).drop p) (propsR props)) else errR ((b.take f).drop p) (propsR props) := by
  unfold scanE
  rw [if_neg (by omega), rest_at hp]
  by_cases h : (b.length : Int) ≤ (p : Int)
  · rw [if_pos h, if_neg (by omega), List.drop_of_length_le (by rw [List.length_take]; omega)]
    rfl
  · rw [if_neg h]
    unfold mapE
    by_cases h1 : f < b.length
    · rw [if_pos h1]
      split
      · rename_i h2
        rw [if_pos h2.2]
      · rename_i h2
        rw [if_neg (fun e => h2 ⟨h1, e⟩)]
    · rw [if_neg h1, if_neg (fun e => h1 e.1)]
theorem scan_at_val {b : List Int} {f p : Nat} {props : Int} (hf : f ≤ b.length) (hp : p ≤ f) (h : errR ((b.take f).drop p) (propsR props) = 0) :
    scanE b f (p : Nat) props = 0 ∧ scanV b f (p : Nat) props = evR ((b.take f).drop p) ∧ scanN b f (p : Nat) props = p + (lenR ((b.take f).drop p) + 6) := by
  have hE : scanE b f (p : Nat) props = 0 := by rw [scan_at hf hp, h]; split <;> rfl
  have hg := get_ok h
  unfold scanV scanN
  rw [if_pos hE, if_pos hE, rest_at hp, hg.1, hg.2.1, Int.toNat_natCast]
  exact ⟨hE, rfl, rfl⟩
/-- A log that is read record by record. -/
structure Walk (b : List Int) (f : Nat) (t : Tr) (er : Nat) (pl : Nat → Nat) : Prop where
  rec_ : ∀ k, k < t.events.length → scanE b f (pl k : Nat) (t.names.length : Int) = 0 ∧ scanV b f (pl k : Nat) (t.names.length : Int) = t.events.getD k noEv ∧ scanN b f (pl k : Nat) (t.names.length : Int) = pl (k + 1) ∧ timeD 0 t.events k ≤ (t.events.getD k noEv).time
  last : (scanE b f (pl t.events.length : Nat) (t.names.length : Int) = er ∧ er ≠ 0) ∨ (er = 8 ∧ scanE b f (pl t.events.length : Nat) (t.names.length : Int) = 0 ∧ (scanV b f (pl t.events.length : Nat) (t.names.length : Int)).time < timeD 0 t.events t.events.length)
  le : ∀ k, k ≤ t.events.length → pl k ≤ f
  far : ∀ k, k ≤ t.events.length → 14 * k ≤ pl k
theorem place_far {b : List Int} {p : Nat} {l : List Ev} (h : ∀ i, i < l.length → placeD b p (i + 1) ≤ b.length ∧ placeD b p i + 14 ≤ placeD b p (i + 1)) (hp : p ≤ b.length) : ∀ k, k ≤ l.length → placeD b p k ≤ b.length ∧ 14 * k ≤ placeD b p k := by
  intro k
  induction k with
  | zero => intro _; exact ⟨hp, by omega⟩
  | succ k ih =>
    intro hk
    have h1 := ih (by omega)
    have h2 := h k (by omega)
    exact ⟨h2.1, by omega⟩
theorem walk_of {b : List Int} {f : Nat} (hf : f ≤ b.length) {t : Tr} {er e0 p : Nat} {last : Int} (hl : last = 0) (hp : p ≤ f)
    (h1 : t.events = (recsD (b.take f) (t.names.length : Int) ((b.take f).length + 1) p last []).1) (h2 : e0 = (recsD (b.take f) (t.names.length : Int) ((b.take f).length + 1) p last []).2) (h3 : er = if f < b.length then mapE e0 else e0) :
    Walk b f t er (placeD (b.take f) p) := by
  have hlen : (b.take f).length = f := by rw [List.length_take]; omega
  obtain ⟨l, r1, r2, r3⟩ := recs_walk (b.take f) (t.names.length : Int) ((b.take f).length + 1) p last [] (by omega)
  rw [List.nil_append, ← h1] at r1
  rw [← h2] at r3
  subst hl
  rw [← r1] at r2 r3
  have hfar := place_far (b := b.take f) (p := p) (l := t.events) (fun i hi => (r2 i hi).2.2.2) (by omega)
  rw [hlen] at hfar
  refine ⟨fun k hk => ?_, ?_, fun k hk => (hfar k hk).1, fun k hk => (hfar k hk).2⟩
  · obtain ⟨a1, a2, a3, a4, a5⟩ := r2 k hk
    obtain ⟨s1, s2, s3⟩ := scan_at_val hf (hfar k (by omega)).1 a1
    exact ⟨s1, by rw [s2, a2], by rw [s3]; rfl, a3⟩
  · have hple := (hfar t.events.length (Nat.le_refl _)).1
    rcases r3 with ⟨a1, a2⟩ | ⟨a1, a2, a3⟩
    · refine .inl ⟨?_, ?_⟩
      · rw [scan_at hf hple, ← a1, h3]
      · rw [h3]
        split
        · unfold mapE; split <;> omega
        · exact a2
    · obtain ⟨s1, s2, s3⟩ := scan_at_val hf hple a2
      refine .inr ⟨?_, s1, by rw [s2]; exact a3⟩
      rw [h3, a1]
      split <;> rfl
theorem walk_start {b : List Int} {f : Nat} (hf : f ≤ b.length) (h : headE b f = 0) : Walk b f (recordsF b f).1 (recordsF b f).2 (placeD (b.take f) (headF b f).2.1) ∧ (headF b f).2.1 ≤ f := by
  have hE : headE b f = (headD (b.take f) (if f < b.length then 10 else 5)).2.2 := rfl
  have hF : headF b f = headD (b.take f) (if f < b.length then 10 else 5) := rfl
  have hlen : (b.take f).length = f := by rw [List.length_take]; omega
  by_cases h1 : f < b.length
  · rw [if_pos h1] at hE hF
    rw [hE] at h
    have hpl := (head_place (by decide) h).2
    rw [hlen] at hpl
    have e1 : recordsF b f = (⟨(headD (b.take f) 10).1, (recsD (b.take f) (headD (b.take f) 10).1.length ((b.take f).length + 1) (headD (b.take f) 10).2.1 0 []).1⟩, mapE (recsD (b.take f) (headD (b.take f) 10).1.length ((b.take f).length + 1) (headD (b.take f) 10).2.1 0 []).2) := by
      unfold recordsF recordsC
      rw [if_pos h1, if_neg (by rw [h]; exact fun e => e rfl)]
    rw [e1, hF]
    exact ⟨walk_of hf rfl hpl rfl rfl (by rw [if_pos h1]), hpl⟩
  · have hfe : f = b.length := by omega
    rw [if_neg h1] at hE hF
    rw [hE] at h
    have hpl := (head_place (by decide) h).2
    rw [hlen] at hpl
    have et : b.take f = b := List.take_of_length_le (by omega)
    have e1 : recordsF b f = (⟨(headD (b.take f) 5).1, (recsD (b.take f) (headD (b.take f) 5).1.length ((b.take f).length + 1) (headD (b.take f) 5).2.1 0 []).1⟩, (recsD (b.take f) (headD (b.take f) 5).1.length ((b.take f).length + 1) (headD (b.take f) 5).2.1 0 []).2) := by
      rw [et] at h ⊢
      unfold recordsF recordsD
      rw [if_neg h1, if_neg (by rw [h]; exact fun e => e rfl)]
    rw [e1, hF]
    exact ⟨walk_of hf rfl hpl rfl rfl (by rw [if_neg h1]), hpl⟩
end Go.Proofs.YtimbbfneaaglbaaGreat.Heads

namespace Go.Proofs.YtimbbfneaaglbaaGreat.Heads
open Go.Proofs.YtimbbfneaaglbaaGreat.Ints Go.Proofs.YtimbbfneaaglbaaGreat.Trace Go.Proofs.YtimbbfneaaglbaaGreat.Record Go.Proofs.YtimbbfneaaglbaaGreat.Log

/-- The open heads: their ids, how many records are before each. -/
def opens : Nat → List (Option Nat) → List (Nat × Nat)
  | _, [] => []
  | i, none :: l => opens (i + 1) l
  | i, some k :: l => (i, k) :: opens (i + 1) l
theorem opens_append (a b : List (Option Nat)) : ∀ i, opens i (a ++ b) = opens i a ++ opens (i + a.length) b := by
  induction a with
  | nil => intro i; simp [opens]
  | cons o a ih =>
    intro i
    cases o with
    | none => simp only [List.cons_append, opens, ih, List.length_cons, Nat.add_comm a.length 1, Nat.add_assoc]
    | some k => simp only [List.cons_append, opens, ih, List.length_cons, Nat.add_comm a.length 1, Nat.add_assoc]
theorem opens_ge (l : List (Option Nat)) : ∀ i, ∀ h ∈ opens i l, i ≤ h.1 ∧ h.1 < i + l.length := by
  induction l with
  | nil => intro i h hh; cases hh
  | cons o l ih =>
    intro i h hh
    cases o with
    | none =>
      have := ih (i + 1) h hh
      simp only [List.length_cons]
      omega
    | some k =>
      simp only [opens, List.mem_cons] at hh
      simp only [List.length_cons]
      rcases hh with rfl | hh
      · exact ⟨Nat.le_refl _, by simp only; omega⟩
      · have := ih (i + 1) h hh; omega
theorem opens_mem (l : List (Option Nat)) : ∀ i j k, (j, k) ∈ opens i l → i ≤ j ∧ l[j - i]? = some (some k) := by
  induction l with
  | nil => intro i j k hh; cases hh
  | cons o l ih =>
    intro i j k hh
    cases o with
    | none =>
      obtain ⟨h1, h2⟩ := ih (i + 1) j k hh
      refine ⟨by omega, ?_⟩
      rw [show j - i = (j - (i + 1)) + 1 by omega, List.getElem?_cons_succ]
      exact h2
    | some m =>
      simp only [opens, List.mem_cons, Prod.mk.injEq] at hh
      rcases hh with ⟨rfl, rfl⟩ | hh
      · exact ⟨Nat.le_refl _, by rw [Nat.sub_self]; rfl⟩
      · obtain ⟨h1, h2⟩ := ih (i + 1) j k hh
        refine ⟨by omega, ?_⟩
        rw [show j - i = (j - (i + 1)) + 1 by omega, List.getElem?_cons_succ]
        exact h2
theorem opens_sorted (l : List (Option Nat)) : ∀ i, (opens i l).Pairwise (fun a b => a.1 < b.1) := by
  induction l with
  | nil => intro i; exact List.Pairwise.nil
  | cons o l ih =>
    intro i
    cases o with
    | none => exact ih (i + 1)
    | some k => exact List.Pairwise.cons (fun h hh => by have := (opens_ge l (i + 1) h hh).1; simp only; omega) (ih (i + 1))
theorem opens_length (l : List (Option Nat)) : ∀ i, (opens i l).length = countP l := by
  induction l with
  | nil => intro i; rfl
  | cons o l ih =>
    intro i
    unfold countP at ih ⊢
    cases o with
    | none => rw [opens, ih, List.countP_cons]; rfl
    | some k => rw [opens, List.length_cons, ih, List.countP_cons]; rfl
theorem opens_cells (t : Tr) (l : List (Option Nat)) : ∀ i, ((opens i l).map fun h => 3 + idsAt t h.2).sum = cellsP t l := by
  induction l with
  | nil => intro i; rfl
  | cons o l ih =>
    intro i
    unfold cellsP at ih ⊢
    cases o with
    | none => rw [opens, ih, List.map_cons, List.sum_cons]; exact (Nat.zero_add _).symm
    | some k => rw [opens, List.map_cons, List.sum_cons, ih, List.map_cons, List.sum_cons]; rfl
/-- All open. -/
theorem opens_full (l : List (Option Nat)) : ∀ i, (∀ o ∈ l, ∃ k, o = some k) → (opens i l).length = l.length ∧ ∀ (j : Nat) (h : Nat × Nat), (opens i l)[j]? = some h → h.1 = i + j := by
  induction l with
  | nil => intro i _; exact ⟨rfl, fun j h hh => by simp [opens] at hh⟩
  | cons o l ih =>
    intro i ho
    obtain ⟨k, rfl⟩ := ho o (List.mem_cons_self ..)
    obtain ⟨h1, h2⟩ := ih (i + 1) (fun o ho2 => ho o (List.mem_cons_of_mem _ ho2))
    refine ⟨by rw [opens, List.length_cons, h1, List.length_cons], fun j h hh => ?_⟩
    rw [opens] at hh
    cases j with
    | zero => simp at hh; rw [← hh]; rfl
    | succ j =>
      rw [List.getElem?_cons_succ] at hh
      have := h2 j h hh
      omega
/-- One place, taken out. -/
theorem opens_at {hs : List (Option Nat)} {i : Nat} {o : Option Nat} (h : hs[i]? = some o) :
    hs = hs.take i ++ o :: hs.drop (i + 1) ∧ (hs.take i).length = i := by
  obtain ⟨hi, he⟩ := List.getElem?_eq_some_iff.1 h
  refine ⟨?_, by rw [List.length_take]; omega⟩
  conv => lhs; rw [← List.take_append_drop i hs]
  rw [List.drop_eq_getElem_cons hi, he]
theorem opens_split {hs : List (Option Nat)} {i k : Nat} (h : hs[i]? = some (some k)) :
    ∃ A B, opens 0 hs = A ++ (i, k) :: B ∧ (∀ j, opens 0 (hs.set i (some j)) = A ++ (i, j) :: B) ∧ opens 0 (hs.set i none) = A ++ B := by
  obtain ⟨h1, h2⟩ := opens_at h
  obtain ⟨hi, -⟩ := List.getElem?_eq_some_iff.1 h
  have hset : ∀ o, hs.set i o = hs.take i ++ o :: hs.drop (i + 1) := fun o => by
    rw [List.set_eq_take_append_cons_drop, if_pos hi]
  refine ⟨opens 0 (hs.take i), opens (i + 1) (hs.drop (i + 1)), ?_, fun j => ?_, ?_⟩
  · conv => lhs; rw [h1]
    rw [opens_append, h2, Nat.zero_add, opens]
  · rw [hset, opens_append, h2, Nat.zero_add, opens]
  · rw [hset, opens_append, h2, Nat.zero_add, opens]
/-- Where the next head goes. -/
theorem opens_put (hs : List (Option Nat)) (k : Nat) : ∃ A B, opens 0 hs = A ++ B ∧ A.length = freeP hs ∧ opens 0 (putP hs (freeP hs) k) = A ++ (freeP hs, k) :: B ∧ (∀ (j : Nat) (h : Nat × Nat), A[j]? = some h → h.1 = j) ∧ (∀ h ∈ B, freeP hs < h.1) := by
  have hall : ∀ o ∈ hs.take (freeP hs), ∃ k, o = some k := fun o ho => by
    obtain ⟨j, hj, he⟩ := List.getElem_of_mem ho
    rw [List.length_take] at hj
    obtain ⟨k, hk⟩ := free_before (hs := hs) (i := j) (by omega)
    refine ⟨k, ?_⟩
    rw [List.getElem_take] at he
    rw [List.getElem?_eq_getElem (by omega), he] at hk
    injection hk
  obtain ⟨f1, f2⟩ := opens_full (hs.take (freeP hs)) 0 hall
  have hfl := free_le hs
  have hlen : (hs.take (freeP hs)).length = freeP hs := by rw [List.length_take]; omega
  by_cases h : freeP hs < hs.length
  · obtain ⟨h1, h2⟩ := opens_at (free_at h)
    refine ⟨opens 0 (hs.take (freeP hs)), opens (freeP hs + 1) (hs.drop (freeP hs + 1)), ?_, by rw [f1, hlen], ?_, fun j u hu => by have := f2 j u hu; omega, fun u hu => (opens_ge _ _ u hu).1⟩
    · conv => lhs; rw [h1]
      rw [opens_append, h2, Nat.zero_add, opens]
    · unfold putP
      rw [if_pos h, List.set_eq_take_append_cons_drop, if_pos h, opens_append, h2, Nat.zero_add, opens]
  · have e : freeP hs = hs.length := by omega
    have et : hs.take (freeP hs) = hs := List.take_of_length_le (by omega)
    rw [et] at f1 f2
    refine ⟨opens 0 hs, [], (List.append_nil _).symm, by rw [f1, e], ?_, fun j u hu => by have := f2 j u hu; omega, fun u hu => by cases hu⟩
    unfold putP
    rw [if_neg h, opens_append, Nat.zero_add, opens, opens, e]
/-- What a search by ids tells. -/
theorem opens_find {hs : List (Option Nat)} {id : Int} {p : Nat} (hlt : ∀ (j : Nat) (h : Nat × Nat), j < p → (opens 0 hs)[j]? = some h → (h.1 : Int) < id) (hge : ∀ (j : Nat) (h : Nat × Nat), p ≤ j → (opens 0 hs)[j]? = some h → id ≤ (h.1 : Int)) :
    ((∃ k A B, headP hs id = some k ∧ opens 0 hs = A ++ (id.toNat, k) :: B ∧ A.length = p ∧ (∀ j, opens 0 (hs.set id.toNat (some j)) = A ++ (id.toNat, j) :: B) ∧ opens 0 (hs.set id.toNat none) = A ++ B) ∨
     (headP hs id = none ∧ ∀ h, (opens 0 hs)[p]? = some h → (h.1 : Int) ≠ id)) := by
  cases hq : headP hs id with
  | some k =>
    obtain ⟨h0, h1, h2⟩ := head_some hq
    obtain ⟨A, B, e1, e2, e3⟩ := opens_split h2
    refine .inl ⟨k, A, B, rfl, e1, ?_, e2, e3⟩
    have hs := opens_sorted hs 0
    have hx : (opens 0 ‹_›)[A.length]? = some (id.toNat, k) := by rw [e1, List.getElem?_append_right (Nat.le_refl _), Nat.sub_self]; rfl
    rcases Nat.lt_trichotomy A.length p with h | h | h
    · have := hlt _ _ h hx
      simp only at this
      omega
    · exact h
    · exfalso
      have hl : p < (opens 0 ‹List (Option Nat)›).length := by rw [e1, List.length_append]; simp; omega
      obtain ⟨y, hy⟩ : ∃ y, (opens 0 ‹List (Option Nat)›)[p]? = some y := ⟨_, List.getElem?_eq_getElem hl⟩
      have h3 := hge p y (Nat.le_refl _) hy
      rw [e1, List.getElem?_append_left h] at hy
      rw [e1, List.pairwise_append] at hs
      have := hs.2.2 y (List.mem_of_getElem? hy) (id.toNat, k) (List.mem_cons_self ..)
      simp only at this
      omega
  | none =>
    refine .inr ⟨rfl, fun h hh he => ?_⟩
    obtain ⟨-, h2⟩ := opens_mem hs 0 h.1 h.2 (List.mem_of_getElem? hh)
    rw [Nat.sub_zero] at h2
    rcases head_none hq with e | e | e
    · omega
    · rw [List.getElem?_eq_none (by omega)] at h2; cases h2
    · rw [show id.toNat = h.1 by omega, h2] at e; cases e
end Go.Proofs.YtimbbfneaaglbaaGreat.Heads

namespace Go.Proofs.YtimbbfneaaglbaaGreat.Scan
open Go.RowKit Go.Proofs.YtimbbfneaaglbaaGreat.Ints Go.Proofs.YtimbbfneaaglbaaGreat.Mem Go.Proofs.YtimbbfneaaglbaaGreat.SumMath Go.Proofs.YtimbbfneaaglbaaGreat.SumWalks Go.Proofs.YtimbbfneaaglbaaGreat.Trace Go.Proofs.YtimbbfneaaglbaaGreat.Record Go.Proofs.YtimbbfneaaglbaaGreat.Log Go.Proofs.YtimbbfneaaglbaaGreat.Src
open Go.Proofs.YtimbbfneaaglbaaGreat.Lex (nameS)

/-- What is wrong where bytes are missing. -/
def missE (n f : Nat) : Nat := if f < n then 10 else 5
theorem miss_ne (n f : Nat) : missE n f ≠ 0 := by unfold missE; split <;> decide
theorem rest_zero (b : List Int) (f : Nat) : restB b f 0 = b.take f := by unfold restB; simp
/-- A part has more bytes to read. -/
theorem part_more {b : List Int} {f j : Nat} (sc : List Int) (N : Nat) {m : Int} (hf : f ≤ b.length) (hj : j ≤ (b.take f).length) (hr : readE b.length f (j : Int) m = 0) :
    ∃ d, (readL b f sc N (j : Int) m).length = d ∧ (b.take f).take j ++ readL b f sc N (j : Int) m = (b.take f).take (j + d) ∧ j + d ≤ (b.take f).length ∧ 1 ≤ d ∧ (d : Int) ≤ m := by
  have hlt := read_zero hr
  obtain ⟨d, h1, h2, h3, h4, h5, -, -⟩ := scan_more (k := j) (p := 0) (m := m) sc N hf (by rw [rest_zero]; exact hj) (fun _ => ⟨Int.le_refl 0, by omega⟩) (by rw [Int.zero_add]; exact hr)
  rw [Int.zero_add] at h1 h2
  rw [rest_zero] at h2 h3
  exact ⟨d, h1, h2, h3, h4, h5⟩
/-- Bytes of a part are missing, or cannot be read. -/
theorem part_stop {b : List Int} {f j r : Nat} {m : Int} (hf : f ≤ b.length) (hj : j ≤ (b.take f).length) (hm : 1 ≤ m) (hr : readE b.length f (j : Int) m = r) (h0 : r ≠ 0) :
    j = (b.take f).length ∧ ((r = 13 ∧ missE b.length f = 5) ∨ (r = 10 ∧ missE b.length f = 10)) := by
  rw [List.length_take] at hj ⊢
  unfold readE at hr
  rw [if_neg (by omega)] at hr
  by_cases c2 : (b.length : Int) ≤ (j : Int)
  · rw [if_pos c2] at hr
    exact ⟨by omega, .inl ⟨hr.symm, by unfold missE; rw [if_neg (by omega)]⟩⟩
  · rw [if_neg c2] at hr
    by_cases c3 : (f : Int) ≤ (j : Int)
    · rw [if_pos c3] at hr
      exact ⟨by omega, .inr ⟨hr.symm, by unfold missE; rw [if_pos (by omega)]⟩⟩
    · rw [if_neg c3] at hr
      exact absurd hr.symm h0

/-- What is wrong with a header's first part. -/
def countE (x : List Int) (ms : Nat) : Nat := if x.length < 5 then ms else if x.take 4 ≠ [87, 71, 76, 1] ∨ 64 < byteAt x 4 then 5 else 0
/-- What is wrong with the two parts of a name, whatever its bytes are. -/
def spelE (x : List Int) (ms k : Nat) : Nat :=
  if x.length ≤ k then ms else if byteAt x k < 1 ∨ 16 < byteAt x k then 5 else if x.length < k + 1 + byteAt x k then ms else 0
theorem count_bad {x : List Int} {ms : Nat} (h : countE x ms ≠ 0) : headD x ms = ([], 0, countE x ms) := by
  unfold countE at h ⊢
  unfold headD
  by_cases h5 : x.length < 5
  · rw [if_pos h5, if_pos h5]
  · rw [if_neg h5] at h ⊢
    rw [if_neg h5]
    by_cases hb : x.take 4 ≠ [87, 71, 76, 1] ∨ 64 < byteAt x 4
    · rw [if_pos hb, if_pos hb]
    · rw [if_neg hb] at h; exact absurd rfl h
theorem count_ok {x : List Int} {ms : Nat} (hm : ms ≠ 0) (h : countE x ms = 0) : 5 ≤ x.length ∧ x.take 4 = [87, 71, 76, 1] ∧ byteAt x 4 ≤ 64 ∧ headD x ms = lastD x ms (namesD x ms (byteAt x 4) 5 []) := by
  unfold countE at h
  by_cases h5 : x.length < 5
  · rw [if_pos h5] at h; exact absurd h hm
  · rw [if_neg h5] at h
    by_cases hb : x.take 4 ≠ [87, 71, 76, 1] ∨ 64 < byteAt x 4
    · rw [if_pos hb] at h; cases h
    · have e1 : x.take 4 = [87, 71, 76, 1] := Decidable.byContradiction fun e => hb (.inl e)
      refine ⟨by omega, e1, Nat.le_of_not_lt fun e => hb (.inr e), ?_⟩
      unfold headD
      rw [if_neg h5, if_neg hb]
/-- A name that cannot be read. -/
theorem spell_bad {x : List Int} {ms k : Nat} (c : Nat) (acc : List (List UInt8)) (h : spelE x ms k ≠ 0) : namesD x ms (c + 1) k acc = ([], 0, spelE x ms k) := by
  unfold spelE at h ⊢
  by_cases h1 : x.length ≤ k
  · rw [if_pos h1, namesD_end c h1]
  · rw [if_neg h1] at h ⊢
    by_cases h2 : byteAt x k < 1 ∨ 16 < byteAt x k
    · rw [if_pos h2, namesD_len c h1 h2]
    · rw [if_neg h2] at h ⊢
      by_cases h3 : x.length < k + 1 + byteAt x k
      · rw [if_pos h3, namesD_short c h1 h2 h3]
      · rw [if_neg h3] at h; exact absurd rfl h
theorem spell_ok {x : List Int} {ms k : Nat} (hm : ms ≠ 0) (h : spelE x ms k = 0) : ¬ x.length ≤ k ∧ ¬ (byteAt x k < 1 ∨ 16 < byteAt x k) ∧ ¬ x.length < k + 1 + byteAt x k := by
  unfold spelE at h
  by_cases h1 : x.length ≤ k
  · rw [if_pos h1] at h; exact absurd h hm
  · rw [if_neg h1] at h
    by_cases h2 : byteAt x k < 1 ∨ 16 < byteAt x k
    · rw [if_pos h2] at h; cases h
    · rw [if_neg h2] at h
      by_cases h3 : x.length < k + 1 + byteAt x k
      · rw [if_pos h3] at h; exact absurd h hm
      · exact ⟨h1, h2, h3⟩
/-- One name more. -/
theorem names_snoc {acc : List (List UInt8)} {s : List UInt8} (h1 : ∀ t ∈ acc, nameS t = true) (h2 : acc.Nodup) (h3 : acc.length < 64) : namesOk (acc ++ [s]) = true ↔ nameS s = true ∧ s ∉ acc := by
  have hlen : (acc ++ [s]).length = acc.length + 1 := by rw [List.length_append]; rfl
  have hl : (acc ++ [s]).getD acc.length [] = s := by simp [List.getD]
  have ht : (acc ++ [s]).take acc.length = acc := by simp
  constructor
  · intro h
    have := ((namesOk_iff _).1 h).2 acc.length (by omega)
    unfold NameGood at this
    rw [hl, ht] at this
    exact this
  · intro h
    refine (namesOk_iff _).2 ⟨by omega, fun i hi => ?_⟩
    unfold NameGood
    by_cases e : i = acc.length
    · rw [e, hl, ht]; exact h
    · have hi2 : i < acc.length := by omega
      have e1 : (acc ++ [s]).getD i [] = acc[i] := by simp [List.getD, List.getElem?_append_left hi2, hi2]
      have e2 : (acc ++ [s]).take i = acc.take i := List.take_append_of_le_length (by omega)
      rw [e1, e2]
      refine ⟨h1 _ (List.getElem_mem hi2), fun hin => ?_⟩
      obtain ⟨j, hj, hje⟩ := List.getElem_of_mem hin
      rw [List.length_take] at hj
      rw [List.getElem_take] at hje
      exact List.pairwise_iff_getElem.1 h2 j i (by omega) hi2 (by omega) hje
/-- Names that are read are read so from what begins with them. -/
theorem names_front {x : List Int} {ms ms2 K : Nat} (hm : ms ≠ 0) (hK : K ≤ x.length) : ∀ (c p : Nat) (acc : List (List UInt8)), (∀ s ∈ acc, nameS s = true) → acc.Nodup → (namesD x ms c p acc).2.2 = 0 → (namesD x ms c p acc).2.1 ≤ K →
    namesD (x.take K) ms2 c p acc = namesD x ms c p acc := by
  intro c
  induction c with
  | zero => intro p acc _ _ _ _; rfl
  | succ c ih =>
    intro p acc h1 h2 h3 h4
    have hle := ((namesD_inv hm (c + 1) p acc h1 h2).1 h3).1
    by_cases e0 : spelE x ms p = 0
    rotate_left
    · rw [spell_bad c acc e0] at h3; exact absurd h3 e0
    obtain ⟨c1, c2, c3⟩ := spell_ok hm e0
    obtain ⟨s, hs⟩ : ∃ s, toU ((x.drop (p + 1)).take (byteAt x p)) = s := ⟨_, rfl⟩
    by_cases c4 : nameS s = false ∨ s ∈ acc
    · rw [namesD_none c c1 c2 c3 hs c4] at h3; cases h3
    have g1 : nameS s = true := by
      rcases hq : nameS s
      · exact absurd (.inl hq) c4
      · rfl
    have g2 : s ∉ acc := fun e => c4 (.inr e)
    have h1' : ∀ t ∈ acc ++ [s], nameS t = true := fun t ht => by
      rcases List.mem_append.1 ht with h | h
      · exact h1 t h
      · rw [List.mem_singleton.1 h]; exact g1
    have h2' : (acc ++ [s]).Nodup := by
      refine List.nodup_append.2 ⟨h2, by simp, fun a ha b hb => ?_⟩
      rw [List.mem_singleton.1 hb]
      exact fun e => g2 (e ▸ ha)
    rw [namesD_next c c1 c2 c3 hs g1 g2] at h3 h4 ⊢
    have hle2 := ((namesD_inv hm c (p + 1 + byteAt x p) (acc ++ [s]) h1' h2').1 h3).1
    have hbt : byteAt (x.take K) p = byteAt x p := byte_take (by omega)
    have hlk : (x.take K).length = K := by rw [List.length_take]; omega
    rw [← ih (p + 1 + byteAt x p) (acc ++ [s]) h1' h2' h3 h4]
    have := namesD_next (b := x.take K) (miss := ms2) c (at_ := p) (acc := acc) (s := s) (by rw [hlk]; omega) (by rw [hbt]; exact c2) (by rw [hlk, hbt]; omega) (by rw [hbt, List.drop_take, List.take_take, Nat.min_eq_left (by omega)]; exact hs) g1 g2
    rw [hbt] at this
    exact this
/-- A whole header, and what is behind it. -/
theorem head_front {x : List Int} {ms k : Nat} {acc : List (List UInt8)} (hm : ms ≠ 0) (h : countE x ms = 0) (hn : namesD x ms (byteAt x 4) 5 [] = (acc, k, 0)) (hk : k + 4 ≤ x.length) : headD (x.take (k + 4)) 5 = headD x ms := by
  obtain ⟨h5, hmk, h64, hE⟩ := count_ok hm h
  have hle := ((namesD_inv hm (byteAt x 4) 5 [] (fun s hs => by cases hs) List.nodup_nil).1 (by rw [hn])).1
  rw [hn] at hle
  have hle : 5 ≤ k := hle
  have hlk : (x.take (k + 4)).length = k + 4 := by rw [List.length_take]; omega
  have hbt : byteAt (x.take (k + 4)) 4 = byteAt x 4 := byte_take (by omega)
  have hnn := names_front (ms2 := 5) hm (K := k + 4) hk (byteAt x 4) 5 [] (fun s hs => by cases hs) List.nodup_nil (by rw [hn]) (by rw [hn]; exact Nat.le_add_right k 4)
  have h1 : headD (x.take (k + 4)) 5 = lastD (x.take (k + 4)) 5 (acc, k, 0) := by
    unfold headD
    rw [if_neg (by omega), List.take_take, Nat.min_eq_left (by omega), hbt, if_neg (fun e => e.elim (fun e => e hmk) (fun e => absurd e (by omega))), hnn, hn]
  rw [h1, hE, hn]
  have e1 : ∀ (y : List Int) (m2 : Nat), ¬ y.length < k + 4 → lastD y m2 (acc, k, 0) = if sealedB (y.take (k + 4)) = false then ([], 0, 5) else (acc, k + 4, 0) := fun y m2 hy => by
    show (if (0 : Nat) ≠ 0 then _ else if y.length < k + 4 then _ else if sealedB (y.take (k + 4)) = false then _ else (acc, k + 4, 0)) = _
    rw [if_neg (fun e => e rfl), if_neg hy]
  rw [e1 _ _ (by omega), e1 _ _ (by omega), List.take_take, Nat.min_self]
end Go.Proofs.YtimbbfneaaglbaaGreat.Scan
