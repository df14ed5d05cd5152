/-
  Ways of a node over two regular expressions; ways of a part of the points; of tests that are numbered otherwise (stage 14). By an AI agent.
  The walks of package bits and of its reference: within, the same, how many, how many words are wanted; two lists of words, two lists of numbers. By an AI agent.
  The walks of package bits: what makes a set: Or. By an AI agent.
  The walks of the reference: what makes a set: Trim, Or, And, Less. By an AI agent.
  The walks of Of, the program's and the reference's. By an AI agent.
-/
import Derived.Test.YtcpmcgbjmncalaaGPathsUnion15
import Derived.Test.YtcpmcgbjmncalaaGPathsUnion18
import Derived.Test.YtcpmcgbjmncalaaGPathsUnion23
import Derived.Test.YtcpmcgbjmncalaaGPathsUnion10
import Derived.OwnWalk
import Derived.Lib.MinMax
import Derived.RegionTactic
import Derived.BigRegion
import Derived.Laws.CopyOwn
namespace Go.Proofs.Ytcpmcgbjmncalaa.Paths
open Go.RowKit Go.Proofs.Ytcpmcgbjmncalaa.Ints Go.Proofs.Ytcpmcgbjmncalaa.Tree

theorem chain_iff2 {R R' : Nat → Nat → Prop} (h : ∀ i j, R i j ↔ R' i j) (i j : Nat) : Chain R i j ↔ Chain R' i j := ⟨chain_mono fun i j => (h i j).1, chain_mono fun i j => (h i j).2⟩
/-- Tests that hold otherwise, but by the numbers that count. -/
theorem wayR_congr {ps ps' : Nat → Nat → Prop} {n : Nat} : ∀ (x : RE) (k k' : Nat), (∀ p q, p < n → q < nts x → (ps p (k + q) ↔ ps' p (k' + q))) → ∀ i j, wayR ps n x k i j ↔ wayR ps' n x k' i j := by
  intro x
  induction x with
  | no => intro k k' _ i j; exact Iff.rfl
  | step => intro k k' _ i j; exact Iff.rfl
  | test x =>
    intro k k' h i j
    refine and_congr_right fun _ => and_congr_right fun hi => ?_
    exact h i 0 hi Nat.zero_lt_one
  | alt a b iha ihb =>
    intro k k' h i j
    exact or_congr (iha k k' (fun p q hp hq => h p q hp (by simp only [nts]; omega)) i j) (ihb _ _ (fun p q hp hq => by have := h p (nts a + q) hp (by simp only [nts]; omega); rwa [← Nat.add_assoc, ← Nat.add_assoc] at this) i j)
  | seq a b iha ihb =>
    intro k k' h i j
    exact exists_congr fun m => and_congr (iha k k' (fun p q hp hq => h p q hp (by simp only [nts]; omega)) i m) (ihb _ _ (fun p q hp hq => by have := h p (nts a + q) hp (by simp only [nts]; omega); rwa [← Nat.add_assoc, ← Nat.add_assoc] at this) m j)
  | many a iha =>
    intro k k' h i j
    exact and_congr_right fun _ => chain_iff2 (iha k k' h) i j
/-! ### trees of lists -/
/-- The nodes stand d further on. -/
def shE (d : Nat) : RE → RE
  | .test x => .test (x + d)
  | .alt a b => .alt (shE d a) (shE d b)
  | .seq a b => .seq (shE d a) (shE d b)
  | .many a => .many (shE d a)
  | x => x
theorem nts_shE (d : Nat) : ∀ x : RE, nts (shE d x) = nts x := by
  intro x
  induction x with
  | no => rfl
  | step => rfl
  | test x => rfl
  | alt a b iha ihb => simp only [shE, nts, iha, ihb]
  | seq a b iha ihb => simp only [shE, nts, iha, ihb]
  | many a iha => simp only [shE, nts, iha]
theorem wayR_shE (d : Nat) (ps : Nat → Nat → Prop) (n : Nat) : ∀ (x : RE) (k : Nat), wayR ps n (shE d x) k = wayR ps n x k := by
  intro x
  induction x with
  | no => intro k; rfl
  | step => intro k; rfl
  | test x => intro k; rfl
  | alt a b iha ihb => intro k; funext i j; simp only [shE, wayR, iha, ihb, nts_shE]
  | seq a b iha ihb => intro k; funext i j; simp only [shE, wayR, iha, ihb, nts_shE]
  | many a iha => intro k; funext i j; simp only [shE, wayR, iha]
theorem kidN_two {l : List Nd} (h : mayL l = true) {i : Nat} (hi : i < l.length) (hk : kidc (kindN l i) = 2) : kidN l i 0 < i ∧ kidN l i 1 < i := by
  obtain ⟨n, t, -, -, h3, -, -, h6, h7, -⟩ := node_two h hi hk
  omega
theorem kidN_one {l : List Nd} (h : mayL l = true) {i : Nat} (hi : i < l.length) (hk : kidc (kindN l i) = 1) : kidN l i 0 < i := by
  obtain ⟨n, -, -, h3, -, h6, -⟩ := node_one h hi hk
  omega
theorem reL_fuel {l : List Nd} (h : mayL l = true) : ∀ i, i < l.length → ∀ f f', i < f → i < f' → reL l f i = reL l f' i := by
  intro i
  induction i using Nat.strongRecOn with
  | ind i ih =>
    intro hi f f' hf hf'
    obtain ⟨f, rfl⟩ : ∃ g, f = g + 1 := ⟨f - 1, by omega⟩
    obtain ⟨f', rfl⟩ : ∃ g, f' = g + 1 := ⟨f' - 1, by omega⟩
    unfold reL
    split
    · rfl
    split
    · rfl
    split
    · next e =>
      obtain ⟨a1, a2⟩ := kidN_two h hi (by rw [e]; rfl)
      rw [ih _ a1 (by omega) f f' (by omega) (by omega), ih _ a2 (by omega) f f' (by omega) (by omega)]
    split
    · next e =>
      obtain ⟨a1, a2⟩ := kidN_two h hi (by rw [e]; rfl)
      rw [ih _ a1 (by omega) f f' (by omega) (by omega), ih _ a2 (by omega) f f' (by omega) (by omega)]
    split
    · next e =>
      have a1 := kidN_one h hi (by rw [e]; rfl)
      rw [ih _ a1 (by omega) f f' (by omega) (by omega)]
    · rfl
theorem kindN_same {a l : List Nd} {i j : Nat} (h : l[j]? = a[i]?) : kindN l j = kindN a i := by unfold kindN; rw [h]
theorem kidN_same {a l : List Nd} {i j q : Nat} (h : l[j]? = a[i]?) : kidN l j q = kidN a i q := by unfold kidN; rw [h]
theorem kindN_shift {b l : List Nd} {i j d : Nat} (h : l[j]? = (b[i]?).map (shiftNd d)) : kindN l j = kindN b i := by
  unfold kindN
  rw [h]
  cases b[i]? <;> rfl
theorem reL_left {a l : List Nd} (h : mayL a = true) (he : ∀ i, i < a.length → l[i]? = a[i]?) : ∀ f i, i < a.length → reL l f i = reL a f i := by
  intro f
  induction f with
  | zero => intro i _; rfl
  | succ f ih =>
    intro i hi
    unfold reL
    rw [kindN_same (he i hi), kidN_same (q := 0) (he i hi), kidN_same (q := 1) (he i hi)]
    split
    · rfl
    split
    · rfl
    split
    · next e =>
      obtain ⟨a1, a2⟩ := kidN_two h hi (by rw [e]; rfl)
      rw [ih _ (by omega), ih _ (by omega)]
    split
    · next e =>
      obtain ⟨a1, a2⟩ := kidN_two h hi (by rw [e]; rfl)
      rw [ih _ (by omega), ih _ (by omega)]
    split
    · next e =>
      have a1 := kidN_one h hi (by rw [e]; rfl)
      rw [ih _ (by omega)]
    · rfl
theorem reL_right {b l : List Nd} {d : Nat} (h : mayL b = true) (he : ∀ i, i < b.length → l[i + d]? = (b[i]?).map (shiftNd d)) : ∀ f i, i < b.length → reL l f (i + d) = shE d (reL b f i) := by
  intro f
  induction f with
  | zero => intro i _; rfl
  | succ f ih =>
    intro i hi
    have hkd := kindN_shift (he i hi)
    have h2 : kidc (kindN b i) = 2 → kidN l (i + d) 0 = kidN b i 0 + d ∧ kidN l (i + d) 1 = kidN b i 1 + d := fun e => by
      obtain ⟨n, t, hn, hks, -, -, -, h6, h7, -⟩ := node_two h hi e
      rw [h6, h7]
      have e1 := he i hi
      rw [hn] at e1
      unfold kidN
      rw [e1]
      constructor
      · show ((n.kids.map (· + (d : Int)))[0]?.getD 0).toNat = t + d
        rw [hks]
        show ((t : Int) + (d : Int)).toNat = t + d
        omega
      · show ((n.kids.map (· + (d : Int)))[1]?.getD 0).toNat = i - 1 + d
        rw [hks]
        show (((i - 1 : Nat) : Int) + (d : Int)).toNat = i - 1 + d
        omega
    have h1 : kidc (kindN b i) = 1 → kidN l (i + d) 0 = kidN b i 0 + d := fun e => by
      obtain ⟨n, hn, hks, -, -, h6, -⟩ := node_one h hi e
      rw [h6]
      have e1 := he i hi
      rw [hn] at e1
      unfold kidN
      rw [e1]
      show ((n.kids.map (· + (d : Int)))[0]?.getD 0).toNat = i - 1 + d
      rw [hks]
      show (((i - 1 : Nat) : Int) + (d : Int)).toNat = i - 1 + d
      omega
    unfold reL
    rw [hkd]
    split
    · rfl
    split
    · rfl
    split
    · next e =>
      obtain ⟨a1, a2⟩ := kidN_two h hi (by rw [e]; rfl)
      obtain ⟨e1, e2⟩ := h2 (by rw [e]; rfl)
      rw [e1, e2, ih _ (by omega), ih _ (by omega)]
      rfl
    split
    · next e =>
      obtain ⟨a1, a2⟩ := kidN_two h hi (by rw [e]; rfl)
      obtain ⟨e1, e2⟩ := h2 (by rw [e]; rfl)
      rw [e1, e2, ih _ (by omega), ih _ (by omega)]
      rfl
    split
    · next e =>
      have a1 := kidN_one h hi (by rw [e]; rfl)
      rw [h1 (by rw [e]; rfl), ih _ (by omega)]
      rfl
    · rfl
/-- A node of a kind, with nothing else. -/
theorem over_len (nd : Nd) (a b : List Nd) : (overL nd a b).length = a.length + b.length + 1 := by unfold overL; simp; omega
theorem over_left (nd : Nd) (a b : List Nd) (i : Nat) (hi : i < a.length) : (overL nd a b)[i]? = a[i]? := by
  unfold overL
  rw [List.append_assoc, List.getElem?_append_left hi]
theorem over_right (nd : Nd) (a b : List Nd) (i : Nat) (hi : i < b.length) : (overL nd a b)[i + a.length]? = (b[i]?).map (shiftNd (a.length : Nat)) := by
  unfold overL
  rw [List.append_assoc, List.getElem?_append_right (by omega), Nat.add_sub_cancel, List.getElem?_append_left (by rw [List.length_map]; exact hi), List.getElem?_map]
theorem over_top (nd : Nd) (a b : List Nd) : (overL nd a b)[a.length + b.length]? = some { nd with kids := (if a = [] then [] else [(a.length : Int) - 1]) ++ (if b = [] then [] else [(a.length : Int) + b.length - 1]) } := by
  unfold overL
  rw [List.getElem?_append_right (by simp)]
  simp
theorem reOf_two {nd : Nd} {a b : List Nd} (ha : mayL a = true) (hb : mayL b = true) (hk : nd.kind = 20 ∨ nd.kind = 21) : reOf (overL nd a b) = (if nd.kind = 20 then RE.alt (reOf a) (shE a.length (reOf b)) else RE.seq (reOf a) (shE a.length (reOf b))) := by
  have h1 := may_ne ha
  have h2 := may_ne hb
  have ht := over_top nd a b
  rw [if_neg (show a ≠ [] from fun e => by rw [e] at h1; exact absurd h1 (by decide)), if_neg (show b ≠ [] from fun e => by rw [e] at h2; exact absurd h2 (by decide))] at ht
  have hkd : kindN (overL nd a b) (a.length + b.length) = nd.kind := by unfold kindN; rw [ht]; rfl
  have k0 : kidN (overL nd a b) (a.length + b.length) 0 = a.length - 1 := by
    unfold kidN; rw [ht]
    show ((a.length : Int) - 1).toNat = a.length - 1
    omega
  have k1 : kidN (overL nd a b) (a.length + b.length) 1 = (b.length - 1) + a.length := by
    unfold kidN; rw [ht]
    show ((a.length : Int) + b.length - 1).toNat = b.length - 1 + a.length
    omega
  have e1 : reL (overL nd a b) (a.length + b.length) (a.length - 1) = reOf a := by
    rw [reL_left ha (over_left nd a b) _ _ (by omega)]
    exact reL_fuel ha _ (by omega) _ _ (by omega) (by omega)
  have e2 : reL (overL nd a b) (a.length + b.length) (b.length - 1 + a.length) = shE a.length (reOf b) := by
    rw [reL_right hb (over_right nd a b) _ _ (by omega)]
    exact congrArg (shE a.length) (reL_fuel hb _ (by omega) _ _ (by omega) (by omega))
  show reL (overL nd a b) (overL nd a b).length ((overL nd a b).length - 1) = _
  rw [over_len, Nat.add_sub_cancel]
  unfold reL
  rw [hkd, k0, k1, e1, e2]
  rcases hk with e | e
  · rw [e]
    rfl
  · rw [e]
    rfl
theorem reOf_one {nd : Nd} {a : List Nd} (ha : mayL a = true) (hk : nd.kind = 22) : reOf (overL nd a []) = RE.many (reOf a) := by
  have h1 := may_ne ha
  have ht := over_top nd a []
  rw [if_neg (show a ≠ [] from fun e => by rw [e] at h1; exact absurd h1 (by decide)), List.length_nil, Nat.add_zero] at ht
  have hkd : kindN (overL nd a []) a.length = nd.kind := by unfold kindN; rw [ht]; rfl
  have k0 : kidN (overL nd a []) a.length 0 = a.length - 1 := by
    unfold kidN; rw [ht]
    show ((a.length : Int) - 1).toNat = a.length - 1
    omega
  have e1 : reL (overL nd a []) a.length (a.length - 1) = reOf a := by
    rw [reL_left ha (over_left nd a []) _ _ (by omega)]
    exact reL_fuel ha _ (by omega) _ _ (by omega) (by omega)
  show reL (overL nd a []) (overL nd a []).length ((overL nd a []).length - 1) = _
  rw [over_len, List.length_nil, Nat.add_zero, Nat.add_sub_cancel]
  unfold reL
  rw [hkd, k0, e1, hk]
  rfl
theorem may_of_reg {l : List Nd} (h : regL l = true) : mayL l = true := by unfold regL at h; rw [Bool.and_eq_true] at h; exact h.1
theorem last_reg {l : List Nd} (h : regL l = true) : regKind (lastKind l) = true := by rw [← reg_last (may_of_reg h)]; exact h
theorem last_over (nd : Nd) (a b : List Nd) : lastKind (overL nd a b) = nd.kind := by unfold lastKind overL; rw [List.getLast?_append]; rfl
theorem reg_two {k : Int} {a b : List Nd} (ha : regL a = true) (hb : regL b = true) (hk : k = 20 ∨ k = 21) : regL (overL (kindNd k) a b) = true := by
  have h2 : kidc k = 2 ∧ takesReg k = true ∧ regKind k = true := by rcases hk with rfl | rfl <;> decide
  have hm := may_over2 (n := kindNd k) h2.1 (kind_fields (by omega)) (may_of_reg ha) (may_of_reg hb) ((last_reg ha).trans h2.2.1.symm) ((last_reg hb).trans h2.2.1.symm)
  rw [reg_last hm, last_over]
  exact h2.2.2
theorem reg_one {k : Int} {a : List Nd} (ha : regL a = true) (hk : k = 22) : regL (overL (kindNd k) a []) = true := by
  have h2 : kidc k = 1 ∧ takesReg k = true ∧ regKind k = true := by subst hk; decide
  have hm := may_over1 (n := kindNd k) h2.1 (kind_fields (by omega)) (may_of_reg ha) ((last_reg ha).trans h2.2.1.symm)
  rw [reg_last hm, last_over]
  exact h2.2.2
end Go.Proofs.Ytcpmcgbjmncalaa.Paths

namespace Go.Proofs.Ytcpmcgbjmncalaa.BitsWalks
open Go.RowKit Go.Proofs.Ytcpmcgbjmncalaa.Ints Go.Proofs.Ytcpmcgbjmncalaa.Words Go.Proofs.Ytcpmcgbjmncalaa.RdW

/-- Is each number of the first in the second? -/
def within (xs ys : List Nat) : Bool := decide (∀ j, j < xs.length → anot (wd xs j) (wd ys j) = 0)
section
variable (A B : Option Addr) (n c m d : Nat) (xs ys : List Nat) (zs us : List Int) (w : World)

/-- Are the two sets one? -/
def same (xs ys : List Nat) : Bool := within xs ys && within ys xs
theorem int_ext {zs us : List Int} (hl : zs.length = us.length) (h : ∀ j : Nat, j < zs.length → zs[j]?.getD 0 = us[j]?.getD 0) : zs = us := by
  apply List.ext_getElem hl
  intro j h1 h2
  have := h j h1
  rwa [List.getElem?_eq_getElem h1, List.getElem?_eq_getElem h2, Option.getD_some, Option.getD_some] at this
theorem equalInts (hn : n ≤ maxLen) (h : Rd .i64 w A n zs) (h' : Rd .i64 w B m us) :
    Calls Try.prog 10 #[.slice A n c, .slice B m d] w fun e w' => e = .returned (.bool (decide (zs = us))) ∧ ∃ q, w' = w.drewN q := by
  unfold maxLen at hn
  have hcell := h.cell
  have hcell' := h'.cell
  have HL := Lib.hid h.len
  have HL' := Lib.hid h'.len
  clear h h'
  by_cases hnm : n = m
  · subst hnm
    go_enter Try.func10, Try.ntmps10
    go_wp2
    go_loopw [13] (fun i wr => ∃ k q : Nat, k ≤ n ∧ i = .int .i64 k ∧ (∀ j : Nat, j < k → zs[j]?.getD 0 = us[j]?.getD 0) ∧ wr = w.drewN q) (fun i _ => n - (intOf i).toNat)
    case atStart => exact ⟨0, 0, Nat.zero_le _, rfl, fun j hj => absurd hj (by omega), rfl⟩
    case round =>
      obtain ⟨k, q, hk, rfl, hz, rfl⟩ := hrel
      have HZ := Lib.hid hz
      clear hz
      by_cases h0 : k < n
      · obtain ⟨b, off, rfl, hc⟩ := hcell (by omega)
        obtain ⟨b', off', rfl, hc'⟩ := hcell' (by omega)
        have hc1 := hc k h0
        have hc2 := hc' k h0
        have hk0 : (k : Int) < (n : Int) := by omega
        clear hcell hcell' hc hc'
        by_cases hx : zs[k]?.getD 0 = us[k]?.getD 0
        · have HX := Lib.hid hx
          rw [← hx] at hc2
          clear hx
          go_wp2
          go_quiet (fail)
          go_wp2
          go_roundw
          case rel =>
            refine ⟨k + 1, _, by omega, by go_num, fun j hj => ?_, rfl⟩
            by_cases e : j = k
            · subst e; exact HX.out
            · exact HZ.out j (by omega)
          case measure => simp [intOf]; omega
        · have hx' : ¬ zs[k]?.getD 0 = us[k]?.getD 0 := hx
          go_wp2
          go_quiet (fail)
          go_wp2
          go_ret
          refine ⟨?_, _, World.drewN_drewN _ _ _⟩
          have : decide (zs = us) = false := by
            rw [decide_eq_false_iff_not]
            intro e
            exact hx (by rw [e])
          rw [this]; rfl
      · have h1 : ¬ (k : Int) < (n : Int) := by omega
        go_wp2
        go_ret
        refine ⟨?_, _, rfl⟩
        have : decide (zs = us) = true := by
          rw [decide_eq_true_iff]
          exact int_ext (by rw [HL.out, HL'.out]) (fun j hj => HZ.out j (by rw [HL.out] at hj; omega))
        rw [this]; rfl
  · have h1 : ¬ ((n : Int) = (m : Int)) := by omega
    go_enter Try.func10, Try.ntmps10
    go_wp2
    go_ret
    refine ⟨?_, 0, rfl⟩
    have : decide (zs = us) = false := by
      rw [decide_eq_false_iff_not]
      intro e
      subst e
      have e1 := HL.out
      have e2 := HL'.out
      omega
    rw [this]; rfl
end
end Go.Proofs.Ytcpmcgbjmncalaa.BitsWalks

namespace Go.Proofs.Ytcpmcgbjmncalaa.BitsWalks
open Go.RowKit Go.Proofs.Ytcpmcgbjmncalaa.Ints Go.Proofs.Ytcpmcgbjmncalaa.Words Go.Proofs.Ytcpmcgbjmncalaa.RdW

/-- The call hands back a set of its own or a part of it: what is in it, f says; at most L words; nothing that was there has changed. -/
def GotSet (w : World) (L : Nat) (f : Nat → Bool) (e : Ending) (w' : World) : Prop :=
  ∃ (A : Option Addr) (n c : Nat) (zs : List Nat), e = .returned (.slice A n c) ∧ IsSet zs f ∧ RdW w' A n zs ∧ n ≤ c ∧ c ≤ maxLen ∧ n ≤ L ∧ Below w.heap.size w w'

theorem infoW : (Try.prog.info? 62).map (fun i => (i.zero, i.size, i.bytes)) = some (some (.int .u64 0), 1, 8) := by kernel_rfl

/-- A row of words of the call's own. -/
abbrev Row (w : World) (base g K c : Nat) (xs : List Nat) : Prop := w.ownsRow base 62 1 (.slice (some ⟨g, 0, none⟩) K c) K ((ints xs).map (Value.int .u64))
theorem made_words (n : Nat) : (madeCells (Value.int .u64 0).cells (n * 1)).toList = (ints (List.replicate n 0)).map (Value.int .u64) := by
  rw [Nat.mul_one]
  apply List.ext_getElem
  · simp [madeCells, ints]
  · intro i h1 h2
    have e : (Value.int .u64 0).cells = #[Value.int .u64 0] := rfl
    simp [madeCells, ints, e, Nat.mod_one]

section
variable {w : World}
theorem Row.reads {base g K c : Nat} {xs : List Nat} (h : Row w base g K c xs) (hw : Ws xs) : RdW w (some ⟨g, 0, none⟩) K xs := RdW.own h hw
theorem Row.set {base g K c : Nat} {xs : List Nat} (h : Row w base g K c xs) (j x : Nat) : Row (w.setCell ⟨g, j, none⟩ (.int .u64 x)) base g K c (xs.set j x) := by
  have := own_set h j (x : Int)
  rwa [ints_set] at this
theorem Row.cell {base g K c : Nat} {xs : List Nat} (h : Row w base g K c xs) {j : Nat} (hj : j < K) : w.cell? ⟨g, j, none⟩ = some (.int .u64 (wd xs j : Nat)) := by
  rw [own_cell h hj, ints_at]; rfl
theorem Row.caps {base g K c : Nat} {xs : List Nat} (h : Row w base g K c xs) : K ≤ c ∧ c ≤ maxLen := by
  obtain ⟨A, c', e, h1, h2, _⟩ := own_slice h
  injection e with _ _ e
  subst e
  exact ⟨h1, h2⟩
/-- A part of the row, up to n, as a set that is handed back. -/
theorem GotSet.row {w0 : World} {base g K c n L : Nat} {xs : List Nat} {f : Nat → Bool} (h : Row w base g K c xs) (hw : Ws xs) (hn : n ≤ K) (hL : n ≤ L) (hs : IsSet (xs.take n) f) (hb : Below w0.heap.size w0 w) :
    GotSet w0 L f (.returned (.slice (some ⟨g, 0, none⟩) n c)) w :=
  ⟨_, n, c, _, rfl, hs, (h.reads hw).take hn, Nat.le_trans hn h.caps.1, h.caps.2, hL, hb⟩
theorem GotSet.all {w0 : World} {base g K c L : Nat} {xs : List Nat} {f : Nat → Bool} (h : Row w base g K c xs) (hL : K ≤ L) (hs : IsSet xs f) (hb : Below w0.heap.size w0 w) :
    GotSet w0 L f (.returned (.slice (some ⟨g, 0, none⟩) K c)) w :=
  ⟨_, K, c, _, rfl, hs, h.reads hs.1, h.caps.1, h.caps.2, hL, hb⟩
end

section
variable (A B : Option Addr) (n c m d : Nat) (xs ys : List Nat) (w : World)

end
end Go.Proofs.Ytcpmcgbjmncalaa.BitsWalks

namespace Go.Proofs.Ytcpmcgbjmncalaa.BitsWalks
open Go.RowKit Go.Proofs.Ytcpmcgbjmncalaa.Ints Go.Proofs.Ytcpmcgbjmncalaa.Words Go.Proofs.Ytcpmcgbjmncalaa.RdW

theorem GotSet.after {w w1 w2 : World} {L L' : Nat} {f g : Nat → Bool} {e : Ending} (h : GotSet w1 L f e w2) (hb : Below w.heap.size w w1) (hL : L ≤ L') (hfg : ∀ k, f k = g k) : GotSet w L' g e w2 := by
  obtain ⟨A, n, c, zs, h1, h2, h3, h4, h5, h6, h7⟩ := h
  exact ⟨A, n, c, zs, h1, h2.congr hfg, h3, h4, h5, Nat.le_trans h6 hL, hb.trans (h7.mono hb.size)⟩
theorem GotSet.own {w w1 : World} {L k base : Nat} {f : Nat → Bool} {v : Value} {zs : List Nat} (h : w1.ownsRow base 62 1 v k ((ints zs).map (Value.int .u64))) (hs : IsSet zs f) (hL : k ≤ L) (hb : Below w.heap.size w w1) : GotSet w L f (.returned v) w1 := by
  obtain ⟨A, c, rfl, h1, h2, _⟩ := own_slice h
  exact ⟨A, k, c, zs, rfl, hs, RdW.own h hs.1, h1, h2, hL, hb⟩

section
variable (A B : Option Addr) (n c m d : Nat) (xs ys : List Nat) (w : World)

set_option maxRecDepth 100000 in
set_option maxHeartbeats 400000 in
theorem refTrim (hn : n ≤ 1048576) (hnc : n ≤ c) (_hc : c ≤ maxLen) (h : RdW w A n xs) :
    Calls Try.prog 57 #[.slice A n c] w (GotSet w n (has xs)) := by
  obtain ⟨i0, hi, hz0, hz1, hz2⟩ := info_parts infoW
  have HC := Lib.hid h.cell
  have HL := Lib.hid h.len
  go_enter Try.func57, Try.ntmps57
  go_wp2
  go_loop [3] (fun i => ∃ k : Nat, k ≤ n ∧ i = .int .i64 k ∧ ∀ j : Nat, k ≤ j → xs[j]?.getD 0 = 0) (fun i => (intOf i).toNat)
  case atStart => exact ⟨n, Nat.le_refl _, rfl, fun j hj => out_getD (by rw [HL.out]; exact hj)⟩
  case round =>
    obtain ⟨k, hk, rfl, hz⟩ := hrel
    have HZ := Lib.hid hz
    clear hz
    by_cases hgo : 0 < k ∧ wd xs (k - 1) = 0
    · obtain ⟨q, rfl⟩ : ∃ q, k = q + 1 := ⟨k - 1, by omega⟩
      obtain ⟨b, off, rfl, hc'⟩ := HC.out (by omega)
      have hc1 := hc' q (by omega)
      have hx : wd xs q = 0 := hgo.2
      have hqn : (q : Int) < (n : Int) := by omega
      clear hc' hgo
      go_wp2
      go_round
      case rel =>
        refine ⟨q, by omega, rfl, fun j hj => ?_⟩
        by_cases e : j = q
        · subst e; exact hx
        · exact HZ.out j (by omega)
      case measure => simp [intOf]
    · have HT := Lib.hid (show Used xs k from ⟨by rw [HL.out]; exact hk, HZ.out, fun h0 e => hgo ⟨h0, e⟩⟩)
      have hsub := h.take hk
      have hkc : (k : Int) ≤ (c : Int) := by omega
      have hk0' : (0 : Int) ≤ (k : Int) := by omega
      have q1 : 0 + k ≤ maxLen := by unfold maxLen; omega
      have q2 : (0 + k) * 8 ≤ 140737488355328 := by omega
      have q3 : w.heap.size ≤ (w.alloc (.cells #[] 62)).heap.size := by simp
      clear hgo
      by_cases h0 : 0 < k
      case' pos =>
        obtain ⟨p, hp⟩ : ∃ p, k - 1 = p := ⟨_, rfl⟩
        obtain ⟨b, off, rfl, hc'⟩ := HC.out (by omega)
        have hc1 := hc' p (by omega)
        have hx : ¬ wd xs p = 0 := by rw [← hp]; exact HT.out.2.2 h0
        have hqn : (p : Int) < (n : Int) := by omega
        have ek : (k : Int) - 1 = (p : Int) := by omega
        clear hc' hp
      case' neg =>
        have hk0 : ¬ (0 : Int) < (k : Int) := by omega
      all_goals
        go_wp2_with (at_builtin; refine wpList_append_ints rfl _ _ 35 rfl .u64 w.heap.size 62 i0 8 Try.underlying35 hi hz0 hz1 hz2 (.slice (some ⟨w.heap.size, 0, none⟩) 0 0) 0 [] rfl (World.ownsRow_made w #[] 0 (Nat.le_refl _) (by decide) rfl) _ _ _ (ints (xs.take k)) rfl (Rd.alloc hsub _) q1 q2 q3 ?_; intro v' w1 hown hgr; simp only [Nat.zero_add, List.nil_append] at hown)
        go_ret
        exact GotSet.own hown (HT.out.set h.ws (fun _ => rfl)) hk (((Below.refl _ _).alloc (Nat.le_refl _) _).grown hgr (by simp) (by rintro k hk; simp [Value.ownBlock] at hk; omega))

end
end Go.Proofs.Ytcpmcgbjmncalaa.BitsWalks

namespace Go.Proofs.Ytcpmcgbjmncalaa.BitsWalks
open Go.RowKit Go.Proofs.Ytcpmcgbjmncalaa.Ints Go.Proofs.Ytcpmcgbjmncalaa.Words Go.Proofs.Ytcpmcgbjmncalaa.RdW

/-- May z be in a set? -/
def may (z : Int) : Prop := 0 ≤ z ∧ z ≤ 4095
instance (z : Int) : Decidable (may z) := by unfold may; exact inferInstance
/-- One number more. -/
def put (L : List Nat) (z : Int) : List Nat := if may z then L.set (z.toNat / 64) (wd L (z.toNat / 64) ||| 2 ^ (z.toNat % 64)) else L
def puts (L : List Nat) (zs : List Int) : List Nat := zs.foldl put L
theorem puts_snoc (L : List Nat) (zs : List Int) (z : Int) : puts L (zs ++ [z]) = put (puts L zs) z := by simp [puts, List.foldl_append]
theorem put_len (L : List Nat) (z : Int) : (put L z).length = L.length := by
  unfold put
  split <;> simp
theorem pow_bit (b i : Nat) : (2 ^ b).testBit i = decide (b = i) := Nat.testBit_two_pow
theorem pow_lt {b : Nat} (h : b < 64) : 2 ^ b < 18446744073709551616 := Nat.pow_lt_pow_right (a := 2) (m := b) (n := 64) (by omega) h
theorem put_ws {L : List Nat} {z : Int} (h : Ws L) : Ws (put L z) := by
  unfold put
  split
  · intro j
    rw [List.getElem?_set]
    split
    · split
      · exact or_lt (h _) (pow_lt (by omega))
      · simp
    · exact h j
  · exact h
theorem puts_ws : ∀ (zs : List Int) {L : List Nat}, Ws L → Ws (puts L zs)
  | [], _, h => h
  | _ :: r, _, h => puts_ws r (put_ws h)
theorem put_has {L : List Nat} {z : Int} (hz : may z → z.toNat / 64 < L.length) (i : Nat) : has (put L z) i = (has L i || decide (may z ∧ (i : Int) = z)) := by
  unfold put
  by_cases hm : may z
  · have hlt := hz hm
    obtain ⟨hm0, hm1⟩ := hm
    rw [if_pos ⟨hm0, hm1⟩]
    unfold has
    rw [List.getElem?_set]
    by_cases hq : z.toNat / 64 = i / 64
    · rw [if_pos hq, if_pos hlt, Option.getD_some, Nat.testBit_or, pow_bit]
      unfold wd
      rw [hq]
      congr 1
      congr 1
      apply propext
      constructor
      · intro h; exact ⟨⟨hm0, hm1⟩, by omega⟩
      · rintro ⟨_, h⟩; omega
    · rw [if_neg hq]
      have : decide (may z ∧ (i : Int) = z) = false := by
        rw [decide_eq_false_iff_not]
        rintro ⟨_, h⟩
        exact hq (by omega)
      rw [this, Bool.or_false]
  · rw [if_neg hm]
    have : decide (may z ∧ (i : Int) = z) = false := by
      rw [decide_eq_false_iff_not]
      rintro ⟨h, _⟩
      exact hm h
    rw [this, Bool.or_false]
/-- Is i one of the numbers that may be in a set? -/
def ofI (zs : List Int) (i : Nat) : Bool := decide (i ≤ 4095 ∧ (i : Int) ∈ zs)
theorem puts_has : ∀ (zs : List Int) {L : List Nat}, (∀ z ∈ zs, may z → z.toNat / 64 < L.length) → ∀ i, has (puts L zs) i = (has L i || ofI zs i)
  | [], _, _, i => by simp [puts, ofI]
  | z :: r, L, h, i => by
    show has (puts (put L z) r) i = _
    rw [puts_has r (fun y hy hm => by rw [put_len]; exact h y (by simp [hy]) hm) i, put_has (h z (by simp)) i, Bool.or_assoc]
    congr 1
    unfold ofI may
    rw [Bool.eq_iff_iff, Bool.or_eq_true, decide_eq_true_iff, decide_eq_true_iff, decide_eq_true_iff, List.mem_cons]
    constructor
    · rintro (⟨h1, h2⟩ | ⟨h1, h2⟩)
      · exact ⟨by omega, .inl h2⟩
      · exact ⟨h1, .inr h2⟩
    · rintro ⟨h1, h2 | h2⟩
      · exact .inl ⟨by omega, h2⟩
      · exact .inr ⟨h1, h2⟩
theorem has_zeros (K i : Nat) : has (List.replicate K 0) i = false := by
  unfold has
  rw [List.getElem?_replicate]
  split <;> simp
theorem or_bit (x b : Nat) (hx : x < 18446744073709551616) (hb : b < 64) : bits .or .u64 (x : Int) (IntKind.u64.wrap ((2 : Int) ^ b)) = ((x ||| 2 ^ b : Nat) : Int) := by
  have h1 := pow_lt hb
  have h0 := Nat.two_pow_pos b
  have e1 : (2 : Int) ^ b = ((2 ^ b : Nat) : Int) := by rw [Int.natCast_pow]; rfl
  have e2 : IntKind.u64.wrap ((2 : Int) ^ b) = ((2 ^ b : Nat) : Int) := by
    rw [e1, IntKind.wrap_u64]
    omega
  rw [e2, bits_or_u64_nat x (2 ^ b) hx h1]
theorem put_at (L : List Nat) (m : Nat) (h : m ≤ 4095) : put L (m : Int) = L.set (m / 64) (wd L (m / 64) ||| 2 ^ (m % 64)) := by
  unfold put
  rw [if_pos (show may (m : Int) from ⟨by omega, by omega⟩)]
  rfl
theorem put_out (L : List Nat) (z : Int) (h : ¬ (0 ≤ z ∧ z ≤ 4095)) : put L z = L := by
  unfold put
  rw [if_neg (show ¬ may z from h)]

section
variable (A : Option Addr) (n c : Nat) (zs : List Int) (w : World)

end
end Go.Proofs.Ytcpmcgbjmncalaa.BitsWalks
