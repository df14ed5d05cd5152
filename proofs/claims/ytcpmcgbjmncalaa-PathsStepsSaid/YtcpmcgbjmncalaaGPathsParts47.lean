/-
  Ways of a node over two regular expressions; ways of a part of the points; of tests that are numbered otherwise (stage 14). By an AI agent.
  So many steps one behind the other (stage 14). By an AI agent.
  The law PathsSteps (stage 14). By an AI agent.
-/
import Derived.Test.YtcpmcgbjmncalaaGPathsParts19
import Derived.Test.YtcpmcgbjmncalaaGPathsParts21
import Derived.Test.YtcpmcgbjmncalaaGPathsParts40
import Derived.Test.YtcpmcgbjmncalaaGPathsParts35
import Derived.Test.YtcpmcgbjmncalaaGPathsParts46
import Derived.Test.YtcpmcgbjmncalaaGPathsParts36
namespace Go.Proofs.Ytcpmcgbjmncalaa.Paths
open Go.RowKit Go.Proofs.Ytcpmcgbjmncalaa.Ints Go.Proofs.Ytcpmcgbjmncalaa.Tree

/-! ### trees of lists -/
/-- The nodes stand d further on. -/
def shE (d : Nat) : RE → RE
  | .test x => .test (x + d)
  | .alt a b => .alt (shE d a) (shE d b)
  | .seq a b => .seq (shE d a) (shE d b)
  | .many a => .many (shE d a)
  | x => x
theorem nts_shE (d : Nat) : ∀ x : RE, nts (shE d x) = nts x := by
  intro x
  induction x with
  | no => rfl
  | step => rfl
  | test x => rfl
  | alt a b iha ihb => simp only [shE, nts, iha, ihb]
  | seq a b iha ihb => simp only [shE, nts, iha, ihb]
  | many a iha => simp only [shE, nts, iha]
theorem wayR_shE (d : Nat) (ps : Nat → Nat → Prop) (n : Nat) : ∀ (x : RE) (k : Nat), wayR ps n (shE d x) k = wayR ps n x k := by
  intro x
  induction x with
  | no => intro k; rfl
  | step => intro k; rfl
  | test x => intro k; rfl
  | alt a b iha ihb => intro k; funext i j; simp only [shE, wayR, iha, ihb, nts_shE]
  | seq a b iha ihb => intro k; funext i j; simp only [shE, wayR, iha, ihb, nts_shE]
  | many a iha => intro k; funext i j; simp only [shE, wayR, iha]
theorem kidN_two {l : List Nd} (h : mayL l = true) {i : Nat} (hi : i < l.length) (hk : kidc (kindN l i) = 2) : kidN l i 0 < i ∧ kidN l i 1 < i := by
  obtain ⟨n, t, -, -, h3, -, -, h6, h7, -⟩ := node_two h hi hk
  omega
theorem kidN_one {l : List Nd} (h : mayL l = true) {i : Nat} (hi : i < l.length) (hk : kidc (kindN l i) = 1) : kidN l i 0 < i := by
  obtain ⟨n, -, -, h3, -, h6, -⟩ := node_one h hi hk
  omega
theorem reL_fuel {l : List Nd} (h : mayL l = true) : ∀ i, i < l.length → ∀ f f', i < f → i < f' → reL l f i = reL l f' i := by
  intro i
  induction i using Nat.strongRecOn with
  | ind i ih =>
    intro hi f f' hf hf'
    obtain ⟨f, rfl⟩ : ∃ g, f = g + 1 := ⟨f - 1, by omega⟩
    obtain ⟨f', rfl⟩ : ∃ g, f' = g + 1 := ⟨f' - 1, by omega⟩
    unfold reL
    split
    · rfl
    split
    · rfl
    split
    · next e =>
      obtain ⟨a1, a2⟩ := kidN_two h hi (by rw [e]; rfl)
      rw [ih _ a1 (by omega) f f' (by omega) (by omega), ih _ a2 (by omega) f f' (by omega) (by omega)]
    split
    · next e =>
      obtain ⟨a1, a2⟩ := kidN_two h hi (by rw [e]; rfl)
      rw [ih _ a1 (by omega) f f' (by omega) (by omega), ih _ a2 (by omega) f f' (by omega) (by omega)]
    split
    · next e =>
      have a1 := kidN_one h hi (by rw [e]; rfl)
      rw [ih _ a1 (by omega) f f' (by omega) (by omega)]
    · rfl
theorem kindN_same {a l : List Nd} {i j : Nat} (h : l[j]? = a[i]?) : kindN l j = kindN a i := by unfold kindN; rw [h]
theorem kidN_same {a l : List Nd} {i j q : Nat} (h : l[j]? = a[i]?) : kidN l j q = kidN a i q := by unfold kidN; rw [h]
theorem kindN_shift {b l : List Nd} {i j d : Nat} (h : l[j]? = (b[i]?).map (shiftNd d)) : kindN l j = kindN b i := by
  unfold kindN
  rw [h]
  cases b[i]? <;> rfl
theorem reL_left {a l : List Nd} (h : mayL a = true) (he : ∀ i, i < a.length → l[i]? = a[i]?) : ∀ f i, i < a.length → reL l f i = reL a f i := by
  intro f
  induction f with
  | zero => intro i _; rfl
  | succ f ih =>
    intro i hi
    unfold reL
    rw [kindN_same (he i hi), kidN_same (q := 0) (he i hi), kidN_same (q := 1) (he i hi)]
    split
    · rfl
    split
    · rfl
    split
    · next e =>
      obtain ⟨a1, a2⟩ := kidN_two h hi (by rw [e]; rfl)
      rw [ih _ (by omega), ih _ (by omega)]
    split
    · next e =>
      obtain ⟨a1, a2⟩ := kidN_two h hi (by rw [e]; rfl)
      rw [ih _ (by omega), ih _ (by omega)]
    split
    · next e =>
      have a1 := kidN_one h hi (by rw [e]; rfl)
      rw [ih _ (by omega)]
    · rfl
theorem reL_right {b l : List Nd} {d : Nat} (h : mayL b = true) (he : ∀ i, i < b.length → l[i + d]? = (b[i]?).map (shiftNd d)) : ∀ f i, i < b.length → reL l f (i + d) = shE d (reL b f i) := by
  intro f
  induction f with
  | zero => intro i _; rfl
  | succ f ih =>
    intro i hi
    have hkd := kindN_shift (he i hi)
    have h2 : kidc (kindN b i) = 2 → kidN l (i + d) 0 = kidN b i 0 + d ∧ kidN l (i + d) 1 = kidN b i 1 + d := fun e => by
      obtain ⟨n, t, hn, hks, -, -, -, h6, h7, -⟩ := node_two h hi e
      rw [h6, h7]
      have e1 := he i hi
      rw [hn] at e1
      unfold kidN
      rw [e1]
      constructor
      · show ((n.kids.map (· + (d : Int)))[0]?.getD 0).toNat = t + d
        rw [hks]
        show ((t : Int) + (d : Int)).toNat = t + d
        omega
      · show ((n.kids.map (· + (d : Int)))[1]?.getD 0).toNat = i - 1 + d
        rw [hks]
        show (((i - 1 : Nat) : Int) + (d : Int)).toNat = i - 1 + d
        omega
    have h1 : kidc (kindN b i) = 1 → kidN l (i + d) 0 = kidN b i 0 + d := fun e => by
      obtain ⟨n, hn, hks, -, -, h6, -⟩ := node_one h hi e
      rw [h6]
      have e1 := he i hi
      rw [hn] at e1
      unfold kidN
      rw [e1]
      show ((n.kids.map (· + (d : Int)))[0]?.getD 0).toNat = i - 1 + d
      rw [hks]
      show (((i - 1 : Nat) : Int) + (d : Int)).toNat = i - 1 + d
      omega
    unfold reL
    rw [hkd]
    split
    · rfl
    split
    · rfl
    split
    · next e =>
      obtain ⟨a1, a2⟩ := kidN_two h hi (by rw [e]; rfl)
      obtain ⟨e1, e2⟩ := h2 (by rw [e]; rfl)
      rw [e1, e2, ih _ (by omega), ih _ (by omega)]
      rfl
    split
    · next e =>
      obtain ⟨a1, a2⟩ := kidN_two h hi (by rw [e]; rfl)
      obtain ⟨e1, e2⟩ := h2 (by rw [e]; rfl)
      rw [e1, e2, ih _ (by omega), ih _ (by omega)]
      rfl
    split
    · next e =>
      have a1 := kidN_one h hi (by rw [e]; rfl)
      rw [h1 (by rw [e]; rfl), ih _ (by omega)]
      rfl
    · rfl
/-- A node of a kind, with nothing else. -/
theorem over_len (nd : Nd) (a b : List Nd) : (overL nd a b).length = a.length + b.length + 1 := by unfold overL; simp; omega
theorem over_left (nd : Nd) (a b : List Nd) (i : Nat) (hi : i < a.length) : (overL nd a b)[i]? = a[i]? := by
  unfold overL
  rw [List.append_assoc, List.getElem?_append_left hi]
theorem over_right (nd : Nd) (a b : List Nd) (i : Nat) (hi : i < b.length) : (overL nd a b)[i + a.length]? = (b[i]?).map (shiftNd (a.length : Nat)) := by
  unfold overL
  rw [List.append_assoc, List.getElem?_append_right (by omega), Nat.add_sub_cancel, List.getElem?_append_left (by rw [List.length_map]; exact hi), List.getElem?_map]
theorem over_top (nd : Nd) (a b : List Nd) : (overL nd a b)[a.length + b.length]? = some { nd with kids := (if a = [] then [] else [(a.length : Int) - 1]) ++ (if b = [] then [] else [(a.length : Int) + b.length - 1]) } := by
  unfold overL
  rw [List.getElem?_append_right (by simp)]
  simp
theorem reOf_two {nd : Nd} {a b : List Nd} (ha : mayL a = true) (hb : mayL b = true) (hk : nd.kind = 20 ∨ nd.kind = 21) : reOf (overL nd a b) = (if nd.kind = 20 then RE.alt (reOf a) (shE a.length (reOf b)) else RE.seq (reOf a) (shE a.length (reOf b))) := by
  have h1 := may_ne ha
  have h2 := may_ne hb
  have ht := over_top nd a b
  rw [if_neg (show a ≠ [] from fun e => by rw [e] at h1; exact absurd h1 (by decide)), if_neg (show b ≠ [] from fun e => by rw [e] at h2; exact absurd h2 (by decide))] at ht
  have hkd : kindN (overL nd a b) (a.length + b.length) = nd.kind := by unfold kindN; rw [ht]; rfl
  have k0 : kidN (overL nd a b) (a.length + b.length) 0 = a.length - 1 := by
    unfold kidN; rw [ht]
    show ((a.length : Int) - 1).toNat = a.length - 1
    omega
  have k1 : kidN (overL nd a b) (a.length + b.length) 1 = (b.length - 1) + a.length := by
    unfold kidN; rw [ht]
    show ((a.length : Int) + b.length - 1).toNat = b.length - 1 + a.length
    omega
  have e1 : reL (overL nd a b) (a.length + b.length) (a.length - 1) = reOf a := by
    rw [reL_left ha (over_left nd a b) _ _ (by omega)]
    exact reL_fuel ha _ (by omega) _ _ (by omega) (by omega)
  have e2 : reL (overL nd a b) (a.length + b.length) (b.length - 1 + a.length) = shE a.length (reOf b) := by
    rw [reL_right hb (over_right nd a b) _ _ (by omega)]
    exact congrArg (shE a.length) (reL_fuel hb _ (by omega) _ _ (by omega) (by omega))
  show reL (overL nd a b) (overL nd a b).length ((overL nd a b).length - 1) = _
  rw [over_len, Nat.add_sub_cancel]
  unfold reL
  rw [hkd, k0, k1, e1, e2]
  rcases hk with e | e
  · rw [e]
    rfl
  · rw [e]
    rfl
theorem may_of_reg {l : List Nd} (h : regL l = true) : mayL l = true := by unfold regL at h; rw [Bool.and_eq_true] at h; exact h.1
theorem last_reg {l : List Nd} (h : regL l = true) : regKind (lastKind l) = true := by rw [← reg_last (may_of_reg h)]; exact h
theorem last_over (nd : Nd) (a b : List Nd) : lastKind (overL nd a b) = nd.kind := by unfold lastKind overL; rw [List.getLast?_append]; rfl
theorem reg_two {k : Int} {a b : List Nd} (ha : regL a = true) (hb : regL b = true) (hk : k = 20 ∨ k = 21) : regL (overL (kindNd k) a b) = true := by
  have h2 : kidc k = 2 ∧ takesReg k = true ∧ regKind k = true := by rcases hk with rfl | rfl <;> decide
  have hm := may_over2 (n := kindNd k) h2.1 (kind_fields (by omega)) (may_of_reg ha) (may_of_reg hb) ((last_reg ha).trans h2.2.1.symm) ((last_reg hb).trans h2.2.1.symm)
  rw [reg_last hm, last_over]
  exact h2.2.2
end Go.Proofs.Ytcpmcgbjmncalaa.Paths

namespace Go.Proofs.Ytcpmcgbjmncalaa.Paths
open Go.RowKit Go.Proofs.Ytcpmcgbjmncalaa.Ints Go.Proofs.Ytcpmcgbjmncalaa.Tree

def farL : Nat → List Nd
  | 0 => [kindNd 18]
  | i + 1 => overL (kindNd 21) (farL i) [kindNd 18]
theorem one_reg : regL [kindNd 18] = true := by kernel_rfl
theorem one_re : reOf [kindNd 18] = .step := by kernel_rfl
theorem awake_re : reOf awakeL = .many .step := by kernel_rfl
theorem far_reg : ∀ i, regL (farL i) = true
  | 0 => one_reg
  | i + 1 => reg_two (far_reg i) one_reg (.inr rfl)
theorem far_len : ∀ i, (farL i).length = 2 * i + 1
  | 0 => rfl
  | i + 1 => by
    show (overL (kindNd 21) (farL i) [kindNd 18]).length = _
    rw [over_len, far_len i]
    show 2 * i + 1 + 1 + 1 = _
    omega
theorem far_way (ps : Nat → Nat → Prop) (n : Nat) : ∀ i a b, wayR ps n (reOf (farL i)) 0 a b ↔ b = a + (i + 1) ∧ b < n
  | 0, a, b => by
    show wayR ps n (reOf [kindNd 18]) 0 a b ↔ _
    rw [one_re]
    exact Iff.rfl
  | i + 1, a, b => by
    show wayR ps n (reOf (overL (kindNd 21) (farL i) [kindNd 18])) 0 a b ↔ _
    rw [reOf_two (may_of_reg (far_reg i)) (may_of_reg one_reg) (.inr rfl), if_neg (by decide), one_re]
    show (∃ m, wayR ps n (reOf (farL i)) 0 a m ∧ wayR ps n (shE _ RE.step) _ m b) ↔ _
    rw [wayR_shE]
    constructor
    · rintro ⟨m, h1, h2⟩
      have h1 := (far_way ps n i a m).1 h1
      have h2 : b = m + 1 ∧ b < n := h2
      omega
    · rintro ⟨h1, h2⟩
      exact ⟨a + (i + 1), (far_way ps n i a _).2 ⟨rfl, by omega⟩, (show b = a + (i + 1) + 1 ∧ b < n by omega)⟩
theorem chain_step {n a b : Nat} : Chain (fun i j => j = i + 1 ∧ j < n) a b ↔ a = b ∨ (a ≤ b ∧ b < n) := by
  constructor
  · rintro ⟨q, h⟩
    induction q generalizing a with
    | zero => exact .inl h
    | succ q ih =>
      rcases h with h | ⟨k, h1, h2⟩
      · exact .inl h
      · rcases ih h2 with e | e
        · exact .inr (by omega)
        · exact .inr (by omega)
  · rintro (rfl | ⟨h1, h2⟩)
    · exact chain_refl _ _
    · obtain ⟨d, rfl⟩ : ∃ d, b = a + d := ⟨b - a, by omega⟩
      induction d with
      | zero => exact chain_refl _ _
      | succ d ih => exact chain_trans (ih (by omega) (by omega)) (chain_one ⟨by omega, h2⟩)
theorem any_reg (i : Nat) : regL (overL (kindNd 21) (farL i) awakeL) = true := reg_two (far_reg i) awake_reg (.inr rfl)
theorem any_way (ps : Nat → Nat → Prop) (n i a b : Nat) : wayR ps n (reOf (overL (kindNd 21) (farL i) awakeL)) 0 a b ↔ a + (i + 1) ≤ b ∧ b < n := by
  rw [reOf_two (may_of_reg (far_reg i)) (may_of_reg awake_reg) (.inr rfl), if_neg (by decide), awake_re]
  show (∃ m, wayR ps n (reOf (farL i)) 0 a m ∧ wayR ps n (shE _ (RE.many RE.step)) _ m b) ↔ _
  rw [wayR_shE]
  constructor
  · rintro ⟨m, h1, h2, h3⟩
    have h1 := (far_way ps n i a m).1 h1
    rcases chain_step.1 h3 with e | e <;> omega
  · rintro ⟨h1, h2⟩
    exact ⟨a + (i + 1), (far_way ps n i a _).2 ⟨rfl, by omega⟩, by omega, chain_step.2 (.inr ⟨h1, h2⟩)⟩
theorem far_tab (vs : Nat → List Nat) (n i : Nat) {a b : Nat} (ha : a < n) (hb : b < n) : tableR (farL i) vs n a b = decide (((b : Nat) : Int) - ((a : Nat) : Int) = ((i + 1 : Nat) : Int)) := by
  rw [Bool.eq_iff_iff, table_tree (far_reg i) vs n ha hb, decide_eq_true_eq]
  refine (far_way _ n i a b).trans ?_
  omega
theorem any_tab (vs : Nat → List Nat) (n i : Nat) {a b : Nat} (ha : a < n) (hb : b < n) : tableR (overL (kindNd 21) (farL i) awakeL) vs n a b = decide (((i + 1 : Nat) : Int) ≤ ((b : Nat) : Int) - ((a : Nat) : Int)) := by
  rw [Bool.eq_iff_iff, table_tree (any_reg i) vs n ha hb, decide_eq_true_eq]
  refine (any_way _ n i a b).trans ?_
  omega
end Go.Proofs.Ytcpmcgbjmncalaa.Paths

namespace Go.Proofs.Ytcpmcgbjmncalaa.Paths
open Go.RowKit Go.Shelf Go.Proofs.Ytcpmcgbjmncalaa.Ints Go.Proofs.Ytcpmcgbjmncalaa.Mem Go.Proofs.Ytcpmcgbjmncalaa.Src Go.Proofs.Ytcpmcgbjmncalaa.Tree Go.Proofs.Ytcpmcgbjmncalaa.BitsWalks Go.Proofs.Ytcpmcgbjmncalaa.RdW Go.Proofs.Ytcpmcgbjmncalaa.Words

theorem kind_ok (w : World) {k : Int} (h : 0 ≤ k ∧ k ≤ 100) : Tree.NodeOk w (kindNd k) none 0 := ⟨(show -9223372036854775808 ≤ k ∧ k ≤ 9223372036854775807 by omega), (show -9223372036854775808 ≤ (0 : Int) ∧ (0 : Int) ≤ 9223372036854775807 by decide), (show -9223372036854775808 ≤ (0 : Int) ∧ (0 : Int) ≤ 9223372036854775807 by decide), (show 0 ≤ maxLen by decide), Rd.nil _ _ _, Nat.le_refl _, by decide⟩
theorem one_nodes {W : World} {g : Nat} (hx : Blk W g [.int .i64 18, .string { data := #[] }, .int .i64 0, .int .i64 0, .slice none 0 0]) : Nodes Tree.Any W (some ⟨g, 0, none⟩) [kindNd 18] := fun _ => ⟨g, 0, rfl, fun j n hj => by
  rcases Nat.lt_or_ge j 1 with h0 | h0
  · obtain rfl : j = 0 := by omega
    injection hj with hj
    subst hj
    exact ⟨hx.cell 0 rfl, hx.cell 1 rfl, hx.cell 2 rfl, hx.cell 3 rfl, by unfold Tree.small64; decide, by unfold Tree.small64; decide, by unfold Tree.small64; decide, by decide, none, 0, hx.cell 4 rfl, Rd.nil _ _ _, Nat.le_refl _, by decide, trivial, fun a e => by cases e⟩
  · rw [List.getElem?_eq_none (by exact h0)] at hj
    cases hj⟩
theorem two_nodes {W : World} {g3 g : Nat} (hx3 : Blk W g3 [.int .i64 0]) (hx4 : Blk W g [.int .i64 18, .string { data := #[] }, .int .i64 0, .int .i64 0, .slice none 0 0, .int .i64 22, .string { data := #[] }, .int .i64 0, .int .i64 0, .slice (some ⟨g3, 0, none⟩) 1 1]) : Nodes Tree.Any W (some ⟨g, 0, none⟩) awakeL := fun _ => ⟨g, 0, rfl, fun j n hj => by
  rcases Nat.lt_or_ge j 1 with h0 | h0
  · obtain rfl : j = 0 := by omega
    injection hj with hj
    subst hj
    exact ⟨hx4.cell 0 rfl, hx4.cell 1 rfl, hx4.cell 2 rfl, hx4.cell 3 rfl, by unfold Tree.small64; decide, by unfold Tree.small64; decide, by unfold Tree.small64; decide, by decide, none, 0, hx4.cell 4 rfl, Rd.nil _ _ _, Nat.le_refl _, by decide, trivial, fun a e => by cases e⟩
  · rcases Nat.lt_or_ge j 2 with h1 | h1
    · obtain rfl : j = 1 := by omega
      injection hj with hj
      subst hj
      refine ⟨hx4.cell 5 rfl, hx4.cell 6 rfl, hx4.cell 7 rfl, hx4.cell 8 rfl, by unfold Tree.small64; decide, by unfold Tree.small64; decide, by unfold Tree.small64; decide, by decide, some ⟨g3, 0, none⟩, 1, hx4.cell 9 rfl, ⟨rfl, fun q hq => ?_, fun _ => ⟨_, 0, rfl, fun q hq => ?_⟩⟩, Nat.le_refl _, by decide, trivial, fun a e _ => trivial⟩
      · obtain rfl : q = 0 := by have hq : q < 1 := hq; omega
        rfl
      · obtain rfl : q = 0 := by have hq : q < 1 := hq; omega
        exact hx3.cell 0 rfl
    · rw [List.getElem?_eq_none (by exact h1)] at hj
      cases hj⟩
set_option maxHeartbeats 16000000 in
set_option maxRecDepth 100000 in
theorem lawSteps (k n : Int) (w : World) (hk : 0 ≤ k ∧ k ≤ 255) (hn : 0 ≤ n ∧ n ≤ 255) :
    Calls Try.prog 7 #[.int .u8 k, .int .u8 n] w fun e w' => e = .returned (.bool true) ∧ Below w.heap.size w w' := by
  obtain ⟨i0, hi, hz0, hz1, hz2⟩ := info_parts infoWs
  obtain ⟨K, hK⟩ : ∃ K : Nat, k.tmod 6 = ((K : Nat) : Int) := ⟨(k.tmod 6).toNat, by rw [Int.tmod_eq_emod_of_nonneg (by omega)]; omega⟩
  have hK6 : K < 6 := by rw [Int.tmod_eq_emod_of_nonneg (by omega)] at hK; omega
  obtain ⟨N, hN⟩ : ∃ N : Nat, n.tmod 10 = ((N : Nat) : Int) := ⟨(n.tmod 10).toNat, by rw [Int.tmod_eq_emod_of_nonneg (by omega)]; omega⟩
  have hN10 : N < 10 := by rw [Int.tmod_eq_emod_of_nonneg (by omega)] at hN; omega
  have hKi : ((K : Nat) : Int) ≤ 5 := by omega
  have hNi : ((N : Nat) : Int) ≤ 9 := by omega
  have h13 : Below w.heap.size w (w.alloc (.cells #[.int .i64 18, .string { data := #[] }, .int .i64 0, .int .i64 0, .slice none 0 0] 42)) := (Below.refl _ _).alloc (Nat.le_refl _) _
  have HN0 := Lib.hid (one_nodes (Blk.new w #[.int .i64 18, .string { data := #[] }, .int .i64 0, .int .i64 0, .slice none 0 0] 42 _ rfl))
  have HB0 := Lib.hid h13
  clear h13
  go_enter Try.func7, Try.ntmps7
  go_wp2_with fail
  go_loopw [5, 18] (fun v vi wr => ∃ (i : Nat) (A : Option Addr) (c : Nat), vi = .int .i64 (i : Nat) ∧ i ≤ K ∧ v = .slice A (2 * i + 1) c ∧ Nodes Tree.Any wr A (farL i) ∧ 2 * i + 1 ≤ c ∧ c ≤ maxLen ∧ Below w.heap.size w wr) (fun _ vi _ => K - (intOf vi).toNat)
  case atStart => exact ⟨0, _, 1, rfl, Nat.zero_le _, rfl, HN0.out, Nat.le_refl _, by decide, HB0.out⟩
  case round =>
    obtain ⟨i, A, c, rfl, hiK, rfl, hN, hc, hcm, hB⟩ := hrel
    have HN := Lib.hid hN
    have HB := Lib.hid hB
    clear hN hB
    by_cases hlt : i < K
    · have hlti : ((i : Nat) : Int) < ((K : Nat) : Int) := by omega
      go_wp2_with fail
      have hal : Below wr.heap.size wr (wr.alloc (.cells #[.int .i64 18, .string { data := #[] }, .int .i64 0, .int .i64 0, .slice none 0 0] 42)) := (Below.refl _ _).alloc (Nat.le_refl _) _
      refine (refOver (kindNd 21) none 0 A (some ⟨wr.heap.size, 0, none⟩) (2 * i + 1) 1 c 1 (farL i) [kindNd 18] Tree.Any _ (far_len i) rfl (by omega) (by decide) (kind_ok _ (by decide)) (HN.out.below hal) (one_nodes (Blk.new wr _ _ _ rfl)) (movable_may (may_of_reg one_reg) (by decide))).mono ?_
      rintro e w2 ⟨A2, c2, e2, hN2, hc2, hcm2, hb2⟩
      have hl2 := far_len (i + 1)
      rw [show (overL (kindNd 21) (farL i) [kindNd 18]).length = 2 * (i + 1) + 1 from hl2] at e2 hc2
      subst e2
      have HN2 := Lib.hid (show Nodes Tree.Any w2 A2 (farL (i + 1)) from Nodes.any hN2)
      have HB2 := Lib.hid ((HB.out.trans (hal.mono HB.out.size)).trans (hb2.mono (HB.out.trans (hal.mono HB.out.size)).size))
      clear hN2 hb2 hal hl2
      go_wp2_with fail
      go_roundw
      case rel => exact ⟨i + 1, A2, c2, by simp, by omega, rfl, HN2.out, hc2, hcm2, HB2.out⟩
      case measure => (show K - (i + 1) < K - i; omega)
    · obtain rfl : i = K := by omega
      have b1 : i0.bytes * N ≤ 281474976710656 := by rw [hz2]; omega
      have q63 : maxLen = 9223372036854775807 := rfl
      have b3 : N ≤ maxLen := by omega
      clear q63
      go_wp2_with (at_make; refine wpList_make_full _ rfl (.tmp 33) (.tmp 33) 30 rfl 0 35 i0 (.slice none 0 0) 1 Try.underlying30 hi hz0 hz1 .i64 .i64 _ _ N rfl rfl rfl rfl b1 b3 (Nat.zero_le _) ?_; intro w5 hmade hgr5; rw [made_slices] at hmade)
      have hb5 : Below wr.heap.size wr w5 := ⟨hgr5.os, hgr5.tape, hgr5.output, hgr5.size, fun k hk => hgr5.block k hk (by simp)⟩
      have HB5 := Lib.hid (HB.out.trans (hb5.mono HB.out.size))
      have HN5 := Lib.hid (HN.out.below hb5)
      have HV5 := Lib.hid (nils_rd w5 _ N N hmade)
      clear hb5 hgr5 hmade
      refine (landReach A (some ⟨wr.heap.size, 0, none⟩) (2 * i + 1) c N N (farL i) (fun _ => []) w5 (far_len i) hc (by omega) HN5.out HV5.out (by omega)).mono ?_
      rw [gotR_yes (far_reg i)]
      rintro e w6 ⟨B, R, rfl, hT, hB6⟩
      have HB6 := Lib.hid (HB5.out.trans (hB6.mono HB5.out.size))
      have HN6 := Lib.hid (HN5.out.below hB6)
      have HV6 := Lib.hid (HV5.out.below hB6)
      have HT6 := Lib.hid hT
      clear hT hB6
      have h67 : Below w6.heap.size w6 (w6.alloc (.cells #[.int .i64 0] 3)) := (Below.refl _ _).alloc (Nat.le_refl _) _
      have hx7 := Blk.new w6 #[.int .i64 0] 3 _ rfl
      obtain ⟨w7, hw7⟩ : ∃ w7, w6.alloc (.cells #[.int .i64 0] 3) = w7 := ⟨_, rfl⟩
      have hs7 : w7.heap.size = w6.heap.size + 1 := by rw [← hw7]; simp
      rw [hw7] at h67 hx7
      have h78 : Below w7.heap.size w7 (w7.alloc (.cells #[.int .i64 18, .string { data := #[] }, .int .i64 0, .int .i64 0, .slice none 0 0, .int .i64 22, .string { data := #[] }, .int .i64 0, .int .i64 0, .slice (some ⟨w6.heap.size, 0, none⟩) 1 1] 42)) := (Below.refl _ _).alloc (Nat.le_refl _) _
      have hx8 := Blk.new w7 #[.int .i64 18, .string { data := #[] }, .int .i64 0, .int .i64 0, .slice none 0 0, .int .i64 22, .string { data := #[] }, .int .i64 0, .int .i64 0, .slice (some ⟨w6.heap.size, 0, none⟩) 1 1] 42 _ rfl
      obtain ⟨w8, hw8⟩ : ∃ w8, w7.alloc (.cells #[.int .i64 18, .string { data := #[] }, .int .i64 0, .int .i64 0, .slice none 0 0, .int .i64 22, .string { data := #[] }, .int .i64 0, .int .i64 0, .slice (some ⟨w6.heap.size, 0, none⟩) 1 1] 42) = w8 := ⟨_, rfl⟩
      rw [hw8] at h78 hx8
      have h68 := h67.trans (h78.mono h67.size)
      have HA8 := Lib.hid (two_nodes (hx7.later h78) hx8)
      rw [hs7] at HA8
      have HB8 := Lib.hid (HB6.out.trans (h68.mono HB6.out.size))
      have HN8 := Lib.hid (HN6.out.below h68)
      have HV8 := Lib.hid (HV6.out.below h68)
      have HT8 := Lib.hid (HT6.out.below h68)
      clear h67 h78 h68 hx7 hx8
      go_wp2_with fail
      refine (refOver (kindNd 21) none 0 A (some ⟨w6.heap.size + 1, 0, none⟩) (2 * i + 1) 2 c 2 (farL i) awakeL Tree.Any _ (far_len i) rfl (by omega) (by decide) (kind_ok _ (by decide)) HN8.out HA8.out (movable_may (may_of_reg awake_reg) (by decide))).mono ?_
      obtain ⟨L, hL⟩ : ∃ L, overL (kindNd 21) (farL i) awakeL = L := ⟨_, rfl⟩
      have hLl : L.length ≤ 1048576 := by rw [← hL, over_len, far_len]; show 2 * i + 1 + 2 + 1 ≤ _; omega
      have hLr : regL L = true := by rw [← hL]; exact any_reg i
      rw [hL]
      rintro e w9 ⟨A9, c9, rfl, hN9, hc9, -, hb9⟩
      have HB9 := Lib.hid (HB8.out.trans (hb9.mono HB8.out.size))
      have HV9 := Lib.hid (HV8.out.below hb9)
      have HT9 := Lib.hid (HT8.out.below hb9)
      have HN9 := Lib.hid (Nodes.any hN9)
      clear hN9 hb9
      go_wp2_with fail
      refine (landReach A9 (some ⟨wr.heap.size, 0, none⟩) L.length c9 N N L (fun _ => []) w9 rfl hc9 hLl HN9.out HV9.out (by omega)).mono ?_
      rw [gotR_yes hLr]
      rintro e w10 ⟨B2, R2, rfl, hT2, hB10⟩
      have HB10 := Lib.hid (HB9.out.trans (hB10.mono HB9.out.size))
      have HT10 := Lib.hid (HT9.out.below hB10)
      have HU10 := Lib.hid hT2
      clear hT2 hB10
      go_wp2_with fail
      refine (lawSquare (some ⟨B, 0, none⟩) N N N _ w10 (HT10.out.reads b3) rfl (Nat.le_refl _) (by omega)).mono ?_
      rintro e w11 ⟨rfl, rfl⟩
      go_wp2_with fail
      refine (lawSquare (some ⟨B2, 0, none⟩) N N N _ w11 (HU10.out.reads b3) rfl (Nat.le_refl _) (by omega)).mono ?_
      rintro e w12 ⟨rfl, rfl⟩
      go_wp2_with fail
      go_loopw [11, 12, 58] (fun _ _ v wx => ∃ p : Nat, v = .int .i64 (p : Nat) ∧ p ≤ N ∧ wx = w12) (fun _ _ v _ => N - (intOf v).toNat)
      case atStart => exact ⟨0, rfl, Nat.zero_le _, rfl⟩
      case round =>
        obtain ⟨p, rfl, hpN, hww⟩ := hrel
        have hww2 := hww.symm
        subst hww2
        clear hww
        by_cases hlt2 : p < N
        · have hpi : ((p : Nat) : Int) < ((N : Nat) : Int) := by omega
          go_wp2_with fail
          go_loopw [12, 62] (fun _ v wx => ∃ q : Nat, v = .int .i64 (q : Nat) ∧ q ≤ N ∧ wx = w12) (fun _ v _ => N - (intOf v).toNat)
          case atStart => exact ⟨0, rfl, Nat.zero_le _, rfl⟩
          case round =>
            obtain ⟨q, rfl, hqN, hww⟩ := hrel
            have hww2 := hww.symm
            subst hww2
            clear hww
            by_cases hlt3 : q < N
            · have hqi : ((q : Nat) : Int) < ((N : Nat) : Int) := by omega
              have o1 := HT10.out.outer hlt2
              have i1 := HT10.out.inner hlt2 hlt3
              rw [far_tab _ N i hlt2 hlt3] at i1
              have o2 := HU10.out.outer hlt2
              have i2 := HU10.out.inner hlt2 hlt3
              rw [← hL, any_tab _ N i hlt2 hlt3] at i2
              have e1 : decide (((q : Nat) : Int) - ((p : Nat) : Int) = ((i + 1 : Nat) : Int)) = (((q : Nat) : Int) - ((p : Nat) : Int) == 1 + ((i : Nat) : Int)) := by
                rw [Bool.eq_iff_iff, decide_eq_true_eq, beq_iff_eq]; omega
              have e2 : decide (((i + 1 : Nat) : Int) ≤ ((q : Nat) : Int) - ((p : Nat) : Int)) = decide (1 + ((i : Nat) : Int) ≤ ((q : Nat) : Int) - ((p : Nat) : Int)) := by
                rw [Bool.eq_iff_iff, decide_eq_true_eq, decide_eq_true_eq]; omega
              obtain ⟨x1, hx1⟩ : ∃ x, (((q : Nat) : Int) - ((p : Nat) : Int) == 1 + ((i : Nat) : Int)) = x := ⟨_, rfl⟩
              obtain ⟨x2, hx2⟩ : ∃ x, decide (1 + ((i : Nat) : Int) ≤ ((q : Nat) : Int) - ((p : Nat) : Int)) = x := ⟨_, rfl⟩
              rw [e1, hx1] at i1
              rw [e2, hx2] at i2
              clear e1 e2
              go_wp2_with fail
              go_roundw
              case rel => exact ⟨q + 1, by simp, by omega, by first | rfl | trivial⟩
              case measure => (show N - (q + 1) < N - q; omega)
            · go_wp2_with fail
              go_roundw
              case rel => exact ⟨p + 1, by simp, by omega, by first | rfl | trivial⟩
              case measure => (show N - (p + 1) < N - p; omega)
        · go_wp2_with (go_at_call 8; refine (lawAwake _).mono ?_; rintro e w13 ⟨rfl, hb13⟩)
          go_ret
          exact ⟨rfl, HB10.out.trans (hb13.mono HB10.out.size)⟩
end Go.Proofs.Ytcpmcgbjmncalaa.Paths
