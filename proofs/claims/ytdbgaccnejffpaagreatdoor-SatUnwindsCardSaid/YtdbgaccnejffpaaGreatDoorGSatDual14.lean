/-
  Ways of a node over two regular expressions; ways of a part of the points; of tests that are numbered otherwise (stage 14). By an AI agent.
  The nodes of a list as a tree of truth; the ways of a regular expression are what its tree tells (stage 15). By an AI agent.
  Which nodes' truth is taken when, and that no one's is wanted twice; a regular expression's part by itself (stage 15). By an AI agent.
-/
import Derived.Test.YtdbgaccnejffpaaGreatDoorGSatDual8
import Derived.Test.YtdbgaccnejffpaaGreatDoorGSatDual10
import Derived.Test.YtdbgaccnejffpaaGreatDoorGSatDual13
import Derived.Test.YtdbgaccnejffpaaGreatDoorGSatDual3
namespace Go.Proofs.YtdbgaccnejffpaaGreatDoor.Paths
open Go.RowKit Go.Proofs.YtdbgaccnejffpaaGreatDoor.Ints Go.Proofs.YtdbgaccnejffpaaGreatDoor.Tree
theorem wayR_le (ps : Nat → Nat → Prop) (n : Nat) : ∀ (x : RE) (k i j : Nat), wayR ps n x k i j → i ≤ j := by
 intro x
 induction x with
 | no => intro k i j h; exact h.elim
 | step => intro k i j h; have := h.1; omega
 | test x => intro k i j h; have := h.1; omega
 | alt a b iha ihb => intro k i j h; exact h.elim (iha k i j) (ihb _ i j)
 | seq a b iha ihb => intro k i j h; exact h.elim fun m h => Nat.le_trans (iha k i m h.1) (ihb _ m j h.2)
 | many a iha => intro k i j h; exact chain_le (iha k) h.2
theorem chain_iff2 {R R' : Nat → Nat → Prop} (h : ∀ i j, R i j ↔ R' i j) (i j : Nat) : Chain R i j ↔ Chain R' i j := ⟨chain_mono fun i j => (h i j).1, chain_mono fun i j => (h i j).2⟩
theorem wayR_cut {ps ps' : Nat → Nat → Prop} {n m a : Nat} (ha : m + a ≤ n) (h : ∀ p q, p < m → (ps' p q ↔ ps (p + a) q)) : ∀ (x : RE) (k i j : Nat), i < m → j < m → (wayR ps' m x k i j ↔ wayR ps n x k (i + a) (j + a)) := by
 intro x
 induction x with
 | no => intro k i j _ _; exact Iff.rfl
 | step =>
  intro k i j hi hj
  show (j = i + 1 ∧ j < m) ↔ (j + a = i + a + 1 ∧ j + a < n)
  omega
 | test x =>
  intro k i j hi hj
  show (j = i ∧ i < m ∧ ps' i k) ↔ (j + a = i + a ∧ i + a < n ∧ ps (i + a) k)
  rw [h i k hi]
  constructor
  ·rintro ⟨e1, e2, e3⟩; exact ⟨by omega, by omega, e3⟩
  ·rintro ⟨e1, e2, e3⟩; exact ⟨by omega, by omega, e3⟩
 | alt x y ihx ihy => intro k i j hi hj; exact or_congr (ihx k i j hi hj) (ihy _ i j hi hj)
 | seq x y ihx ihy =>
  intro k i j hi hj
  constructor
  ·rintro ⟨q, h1, h2⟩
   have hq := (wayR_on ps' m x k i q h1).2
   exact ⟨q + a, (ihx k i q hi hq).1 h1, (ihy _ q j hq hj).1 h2⟩
  ·rintro ⟨q, h1, h2⟩
   have l1 := wayR_le ps n x k _ _ h1
   have l2 := wayR_le ps n y _ _ _ h2
   obtain ⟨q', rfl⟩ : ∃ q', q = q' + a := ⟨q - a, by omega⟩
   exact ⟨q', (ihx k i q' hi (by omega)).2 h1, (ihy _ q' j (by omega) hj).2 h2⟩
 | many x ihx =>
  intro k i j hi hj
  constructor
  ·rintro ⟨_, hc⟩
   exact ⟨by omega, chain_into (wayR_on ps' m x k) (ihx k) hc⟩
  ·rintro ⟨_, hc⟩
   exact ⟨hi, chain_cut (wayR_le ps n x k) (ihx k) hi hj hc⟩
def shE (d : Nat) : RE → RE
 | .test x => .test (x + d)
 | .alt a b => .alt (shE d a) (shE d b)
 | .seq a b => .seq (shE d a) (shE d b)
 | .many a => .many (shE d a)
 | x => x
theorem kidN_two {l : List Nd} (h : mayL l = true) {i : Nat} (hi : i < l.length) (hk : kidc (kindN l i) = 2) : kidN l i 0 < i ∧ kidN l i 1 < i := by
 obtain ⟨n, t, -, -, h3, -, -, h6, h7, -⟩ := node_two h hi hk
 omega
theorem kidN_one {l : List Nd} (h : mayL l = true) {i : Nat} (hi : i < l.length) (hk : kidc (kindN l i) = 1) : kidN l i 0 < i := by
 obtain ⟨n, -, -, h3, -, h6, -⟩ := node_one h hi hk
 omega
theorem reL_fuel {l : List Nd} (h : mayL l = true) : ∀ i, i < l.length → ∀ f f', i < f → i < f' → reL l f i = reL l f' i := by
 intro i
 induction i using Nat.strongRecOn with
 | ind i ih =>
  intro hi f f' hf hf'
  obtain ⟨f, rfl⟩ : ∃ g, f = g + 1 := ⟨f - 1, by omega⟩
  obtain ⟨f', rfl⟩ : ∃ g, f' = g + 1 := ⟨f' - 1, by omega⟩
  unfold reL
  split
  ·rfl
  split
  ·rfl
  split
  ·next e =>
   obtain ⟨a1, a2⟩ := kidN_two h hi (by rw [e]; rfl)
   rw [ih _ a1 (by omega) f f' (by omega) (by omega), ih _ a2 (by omega) f f' (by omega) (by omega)]
  split
  ·next e =>
   obtain ⟨a1, a2⟩ := kidN_two h hi (by rw [e]; rfl)
   rw [ih _ a1 (by omega) f f' (by omega) (by omega), ih _ a2 (by omega) f f' (by omega) (by omega)]
  split
  ·next e =>
   have a1 := kidN_one h hi (by rw [e]; rfl)
   rw [ih _ a1 (by omega) f f' (by omega) (by omega)]
  ·rfl
theorem kindN_same {a l : List Nd} {i j : Nat} (h : l[j]? = a[i]?) : kindN l j = kindN a i := by unfold kindN; rw [h]
theorem kidN_same {a l : List Nd} {i j q : Nat} (h : l[j]? = a[i]?) : kidN l j q = kidN a i q := by unfold kidN; rw [h]
theorem kindN_shift {b l : List Nd} {i j d : Nat} (h : l[j]? = (b[i]?).map (shiftNd d)) : kindN l j = kindN b i := by
 unfold kindN
 rw [h]
 cases b[i]? <;> rfl
theorem reL_left {a l : List Nd} (h : mayL a = true) (he : ∀ i, i < a.length → l[i]? = a[i]?) : ∀ f i, i < a.length → reL l f i = reL a f i := by
 intro f
 induction f with
 | zero => intro i _; rfl
 | succ f ih =>
  intro i hi
  unfold reL
  rw [kindN_same (he i hi), kidN_same (q := 0) (he i hi), kidN_same (q := 1) (he i hi)]
  split
  ·rfl
  split
  ·rfl
  split
  ·next e =>
   obtain ⟨a1, a2⟩ := kidN_two h hi (by rw [e]; rfl)
   rw [ih _ (by omega), ih _ (by omega)]
  split
  ·next e =>
   obtain ⟨a1, a2⟩ := kidN_two h hi (by rw [e]; rfl)
   rw [ih _ (by omega), ih _ (by omega)]
  split
  ·next e =>
   have a1 := kidN_one h hi (by rw [e]; rfl)
   rw [ih _ (by omega)]
  ·rfl
theorem reL_right {b l : List Nd} {d : Nat} (h : mayL b = true) (he : ∀ i, i < b.length → l[i + d]? = (b[i]?).map (shiftNd d)) : ∀ f i, i < b.length → reL l f (i + d) = shE d (reL b f i) := by
 intro f
 induction f with
 | zero => intro i _; rfl
 | succ f ih =>
  intro i hi
  have hkd := kindN_shift (he i hi)
  have h2 : kidc (kindN b i) = 2 → kidN l (i + d) 0 = kidN b i 0 + d ∧ kidN l (i + d) 1 = kidN b i 1 + d := fun e => by
   obtain ⟨n, t, hn, hks, -, -, -, h6, h7, -⟩ := node_two h hi e
   rw [h6, h7]
   have e1 := he i hi
   rw [hn] at e1
   unfold kidN
   rw [e1]
   constructor
   ·show ((n.kids.map (· + (d : Int)))[0]?.getD 0).toNat = t + d
    rw [hks]
    show ((t : Int) + (d : Int)).toNat = t + d
    omega
   ·show ((n.kids.map (· + (d : Int)))[1]?.getD 0).toNat = i - 1 + d
    rw [hks]
    show (((i - 1 : Nat) : Int) + (d : Int)).toNat = i - 1 + d
    omega
  have h1 : kidc (kindN b i) = 1 → kidN l (i + d) 0 = kidN b i 0 + d := fun e => by
   obtain ⟨n, hn, hks, -, -, h6, -⟩ := node_one h hi e
   rw [h6]
   have e1 := he i hi
   rw [hn] at e1
   unfold kidN
   rw [e1]
   show ((n.kids.map (· + (d : Int)))[0]?.getD 0).toNat = i - 1 + d
   rw [hks]
   show (((i - 1 : Nat) : Int) + (d : Int)).toNat = i - 1 + d
   omega
  unfold reL
  rw [hkd]
  split
  ·rfl
  split
  ·rfl
  split
  ·next e =>
   obtain ⟨a1, a2⟩ := kidN_two h hi (by rw [e]; rfl)
   obtain ⟨e1, e2⟩ := h2 (by rw [e]; rfl)
   rw [e1, e2, ih _ (by omega), ih _ (by omega)]
   rfl
  split
  ·next e =>
   obtain ⟨a1, a2⟩ := kidN_two h hi (by rw [e]; rfl)
   obtain ⟨e1, e2⟩ := h2 (by rw [e]; rfl)
   rw [e1, e2, ih _ (by omega), ih _ (by omega)]
   rfl
  split
  ·next e =>
   have a1 := kidN_one h hi (by rw [e]; rfl)
   rw [h1 (by rw [e]; rfl), ih _ (by omega)]
   rfl
  ·rfl
theorem over_len (nd : Nd) (a b : List Nd) : (overL nd a b).length = a.length + b.length + 1 := by unfold overL; simp; omega
theorem over_left (nd : Nd) (a b : List Nd) (i : Nat) (hi : i < a.length) : (overL nd a b)[i]? = a[i]? := by
 unfold overL
 rw [List.append_assoc, List.getElem?_append_left hi]
theorem over_right (nd : Nd) (a b : List Nd) (i : Nat) (hi : i < b.length) : (overL nd a b)[i + a.length]? = (b[i]?).map (shiftNd (a.length : Nat)) := by
 unfold overL
 rw [List.append_assoc, List.getElem?_append_right (by omega), Nat.add_sub_cancel, List.getElem?_append_left (by rw [List.length_map]; exact hi), List.getElem?_map]
theorem over_top (nd : Nd) (a b : List Nd) : (overL nd a b)[a.length + b.length]? = some { nd with kids := (if a = [] then [] else [(a.length : Int) - 1]) ++ (if b = [] then [] else [(a.length : Int) + b.length - 1]) } := by
 unfold overL
 rw [List.getElem?_append_right (by simp)]
 simp
theorem reOf_two {nd : Nd} {a b : List Nd} (ha : mayL a = true) (hb : mayL b = true) (hk : nd.kind = 20 ∨ nd.kind = 21) : reOf (overL nd a b) = (if nd.kind = 20 then RE.alt (reOf a) (shE a.length (reOf b)) else RE.seq (reOf a) (shE a.length (reOf b))) := by
 have h1 := may_ne ha
 have h2 := may_ne hb
 have ht := over_top nd a b
 rw [if_neg (show a ≠ [] from fun e => by rw [e] at h1; exact absurd h1 (by decide)), if_neg (show b ≠ [] from fun e => by rw [e] at h2; exact absurd h2 (by decide))] at ht
 have hkd : kindN (overL nd a b) (a.length + b.length) = nd.kind := by unfold kindN; rw [ht]; rfl
 have k0 : kidN (overL nd a b) (a.length + b.length) 0 = a.length - 1 := by
  unfold kidN; rw [ht]
  show ((a.length : Int) - 1).toNat = a.length - 1
  omega
 have k1 : kidN (overL nd a b) (a.length + b.length) 1 = (b.length - 1) + a.length := by
  unfold kidN; rw [ht]
  show ((a.length : Int) + b.length - 1).toNat = b.length - 1 + a.length
  omega
 have e1 : reL (overL nd a b) (a.length + b.length) (a.length - 1) = reOf a := by
  rw [reL_left ha (over_left nd a b) _ _ (by omega)]
  exact reL_fuel ha _ (by omega) _ _ (by omega) (by omega)
 have e2 : reL (overL nd a b) (a.length + b.length) (b.length - 1 + a.length) = shE a.length (reOf b) := by
  rw [reL_right hb (over_right nd a b) _ _ (by omega)]
  exact congrArg (shE a.length) (reL_fuel hb _ (by omega) _ _ (by omega) (by omega))
 show reL (overL nd a b) (overL nd a b).length ((overL nd a b).length - 1) = _
 rw [over_len, Nat.add_sub_cancel]
 unfold reL
 rw [hkd, k0, k1, e1, e2]
 rcases hk with e | e
 ·rw [e]
  rfl
 ·rw [e]
  rfl
theorem reOf_one {nd : Nd} {a : List Nd} (ha : mayL a = true) (hk : nd.kind = 22) : reOf (overL nd a []) = RE.many (reOf a) := by
 have h1 := may_ne ha
 have ht := over_top nd a []
 rw [if_neg (show a ≠ [] from fun e => by rw [e] at h1; exact absurd h1 (by decide)), List.length_nil, Nat.add_zero] at ht
 have hkd : kindN (overL nd a []) a.length = nd.kind := by unfold kindN; rw [ht]; rfl
 have k0 : kidN (overL nd a []) a.length 0 = a.length - 1 := by
  unfold kidN; rw [ht]
  show ((a.length : Int) - 1).toNat = a.length - 1
  omega
 have e1 : reL (overL nd a []) a.length (a.length - 1) = reOf a := by
  rw [reL_left ha (over_left nd a []) _ _ (by omega)]
  exact reL_fuel ha _ (by omega) _ _ (by omega) (by omega)
 show reL (overL nd a []) (overL nd a []).length ((overL nd a []).length - 1) = _
 rw [over_len, List.length_nil, Nat.add_zero, Nat.add_sub_cancel]
 unfold reL
 rw [hkd, k0, e1, hk]
 rfl
theorem may_of_reg {l : List Nd} (h : regL l = true) : mayL l = true := by unfold regL at h; rw [Bool.and_eq_true] at h; exact h.1
theorem last_reg {l : List Nd} (h : regL l = true) : regKind (lastKind l) = true := by rw [← reg_last (may_of_reg h)]; exact h
theorem last_over (nd : Nd) (a b : List Nd) : lastKind (overL nd a b) = nd.kind := by unfold lastKind overL; rw [List.getLast?_append]; rfl
theorem reg_two {k : Int} {a b : List Nd} (ha : regL a = true) (hb : regL b = true) (hk : k = 20 ∨ k = 21) : regL (overL (kindNd k) a b) = true := by
 have h2 : kidc k = 2 ∧ takesReg k = true ∧ regKind k = true := by rcases hk with rfl | rfl <;> decide
 have hm := may_over2 (n := kindNd k) h2.1 (kind_fields (by omega)) (may_of_reg ha) (may_of_reg hb) ((last_reg ha).trans h2.2.1.symm) ((last_reg hb).trans h2.2.1.symm)
 rw [reg_last hm, last_over]
 exact h2.2.2
theorem reg_one {k : Int} {a : List Nd} (ha : regL a = true) (hk : k = 22) : regL (overL (kindNd k) a []) = true := by
 have h2 : kidc k = 1 ∧ takesReg k = true ∧ regKind k = true := by subst hk; decide
 have hm := may_over1 (n := kindNd k) h2.1 (kind_fields (by omega)) (may_of_reg ha) ((last_reg ha).trans h2.2.1.symm)
 rw [reg_last hm, last_over]
 exact h2.2.2
end Go.Proofs.YtdbgaccnejffpaaGreatDoor.Paths

namespace Go.Proofs.YtdbgaccnejffpaaGreatDoor.Sat
open Go.RowKit Go.Proofs.YtdbgaccnejffpaaGreatDoor.Ints Go.Proofs.YtdbgaccnejffpaaGreatDoor.Tree Go.Proofs.YtdbgaccnejffpaaGreatDoor.Paths
def nameN (l : List Nd) (i : Nat) : List UInt8 := ((l[i]?).map (·.name.data.toList)).getD []
def loN (l : List Nd) (i : Nat) : Int := ((l[i]?).map (·.lo)).getD 0
def hiN (l : List Nd) (i : Nat) : Int := ((l[i]?).map (·.hi)).getD 0
def foL (l : List Nd) : Nat → Nat → Fo
 | 0, _ => .z 0 []
 | f + 1, i =>
  if kidc (kindN l i) = 0 then .z (kindN l i) (nameN l i)
  else if kidc (kindN l i) = 1 then .o (kindN l i) (loN l i) (hiN l i) (foL l f (kidN l i 0))
  else .t (kindN l i) (loN l i) (hiN l i) (foL l f (kidN l i 0)) (foL l f (kidN l i 1))
def foI (l : List Nd) (i : Nat) : Fo := foL l (i + 1) i
def foOf (l : List Nd) : Fo := foI l (l.length - 1)
def reI (l : List Nd) (i : Nat) : RE := reL l (i + 1) i
theorem foL_fuel {l : List Nd} (h : mayL l = true) : ∀ i, i < l.length → ∀ f f', i < f → i < f' → foL l f i = foL l f' i := by
 intro i
 induction i using Nat.strongRecOn with
 | ind i ih =>
  intro hi f f' hf hf'
  obtain ⟨f, rfl⟩ : ∃ g, f = g + 1 := ⟨f - 1, by omega⟩
  obtain ⟨f', rfl⟩ : ∃ g, f' = g + 1 := ⟨f' - 1, by omega⟩
  unfold foL
  split
  ·rfl
  split
  ·next e =>
   have a1 := kidN_one h hi e
   rw [ih _ a1 (by omega) f f' (by omega) (by omega)]
  ·next e0 e1 =>
   obtain ⟨a1, a2⟩ := kidN_two h hi (by rcases kidc_ways (kindN l i) with e | e | e <;> omega)
   rw [ih _ a1 (by omega) f f' (by omega) (by omega), ih _ a2 (by omega) f f' (by omega) (by omega)]
theorem foI_zero {l : List Nd} {i : Nat} (hk : kidc (kindN l i) = 0) : foI l i = .z (kindN l i) (nameN l i) := by
 unfold foI foL
 rw [if_pos hk]
theorem foI_one {l : List Nd} (h : mayL l = true) {i : Nat} (hi : i < l.length) (hk : kidc (kindN l i) = 1) : foI l i = .o (kindN l i) (loN l i) (hiN l i) (foI l (kidN l i 0)) := by
 have a1 := kidN_one h hi hk
 show foL l (i + 1) i = _
 unfold foL
 rw [if_neg (by omega), if_pos hk, foL_fuel h _ (by omega) i (kidN l i 0 + 1) a1 (by omega)]
 rfl
theorem foI_two {l : List Nd} (h : mayL l = true) {i : Nat} (hi : i < l.length) (hk : kidc (kindN l i) = 2) : foI l i = .t (kindN l i) (loN l i) (hiN l i) (foI l (kidN l i 0)) (foI l (kidN l i 1)) := by
 obtain ⟨a1, a2⟩ := kidN_two h hi hk
 show foL l (i + 1) i = _
 unfold foL
 rw [if_neg (by omega), if_neg (by omega), foL_fuel h _ (by omega) i (kidN l i 0 + 1) a1 (by omega), foL_fuel h _ (by omega) i (kidN l i 1 + 1) a2 (by omega)]
 rfl
theorem reI_eq {l : List Nd} (h : mayL l = true) {i f : Nat} (hi : i < l.length) (hf : i < f) : reL l f i = reI l i := reL_fuel h i hi _ _ hf (by omega)
theorem foL_left {a l : List Nd} (h : mayL a = true) (he : ∀ i, i < a.length → l[i]? = a[i]?) : ∀ f i, i < a.length → foL l f i = foL a f i := by
 intro f
 induction f with
 | zero => intro i _; rfl
 | succ f ih =>
  intro i hi
  have en : nameN l i = nameN a i := by unfold nameN; rw [he i hi]
  have el : loN l i = loN a i := by unfold loN; rw [he i hi]
  have eh : hiN l i = hiN a i := by unfold hiN; rw [he i hi]
  unfold foL
  rw [kindN_same (he i hi), kidN_same (q := 0) (he i hi), kidN_same (q := 1) (he i hi), en, el, eh]
  split
  ·rfl
  split
  ·next e =>
   have a1 := kidN_one h hi e
   rw [ih _ (by omega)]
  ·next e0 e1 =>
   obtain ⟨a1, a2⟩ := kidN_two h hi (by rcases kidc_ways (kindN a i) with e | e | e <;> omega)
   rw [ih _ (by omega), ih _ (by omega)]
theorem kid_shift {b l : List Nd} {d : Nat} (h : mayL b = true) (he : ∀ i, i < b.length → l[i + d]? = (b[i]?).map (shiftNd d)) {i : Nat} (hi : i < b.length) :
  (kidc (kindN b i) = 2 → kidN l (i + d) 0 = kidN b i 0 + d ∧ kidN l (i + d) 1 = kidN b i 1 + d) ∧ (kidc (kindN b i) = 1 → kidN l (i + d) 0 = kidN b i 0 + d) := by
 constructor
 ·intro e
  obtain ⟨n, t, hn, hks, -, -, -, h6, h7, -⟩ := node_two h hi e
  rw [h6, h7]
  have e1 := he i hi
  rw [hn] at e1
  unfold kidN
  rw [e1]
  constructor
  ·show ((n.kids.map (· + (d : Int)))[0]?.getD 0).toNat = t + d
   rw [hks]
   show ((t : Int) + (d : Int)).toNat = t + d
   omega
  ·show ((n.kids.map (· + (d : Int)))[1]?.getD 0).toNat = i - 1 + d
   rw [hks]
   show (((i - 1 : Nat) : Int) + (d : Int)).toNat = i - 1 + d
   omega
 ·intro e
  obtain ⟨n, hn, hks, -, -, h6, -⟩ := node_one h hi e
  rw [h6]
  have e1 := he i hi
  rw [hn] at e1
  unfold kidN
  rw [e1]
  show ((n.kids.map (· + (d : Int)))[0]?.getD 0).toNat = i - 1 + d
  rw [hks]
  show (((i - 1 : Nat) : Int) + (d : Int)).toNat = i - 1 + d
  omega
theorem fields_shift {b l : List Nd} {i d : Nat} (h : l[i + d]? = (b[i]?).map (shiftNd d)) : nameN l (i + d) = nameN b i ∧ loN l (i + d) = loN b i ∧ hiN l (i + d) = hiN b i := by
 unfold nameN loN hiN
 rw [h]
 cases b[i]? <;> exact ⟨rfl, rfl, rfl⟩
theorem foL_right {b l : List Nd} {d : Nat} (h : mayL b = true) (he : ∀ i, i < b.length → l[i + d]? = (b[i]?).map (shiftNd d)) : ∀ f i, i < b.length → foL l f (i + d) = foL b f i := by
 intro f
 induction f with
 | zero => intro i _; rfl
 | succ f ih =>
  intro i hi
  obtain ⟨en, el, eh⟩ := fields_shift (he i hi)
  obtain ⟨h2, h1⟩ := kid_shift h he hi
  unfold foL
  rw [kindN_shift (he i hi), en, el, eh]
  split
  ·rfl
  split
  ·next e =>
   have a1 := kidN_one h hi e
   rw [h1 e, ih _ (by omega)]
  ·next e0 e1 =>
   have e : kidc (kindN b i) = 2 := by rcases kidc_ways (kindN b i) with e | e | e <;> omega
   obtain ⟨a1, a2⟩ := kidN_two h hi e
   obtain ⟨b1, b2⟩ := h2 e
   rw [b1, b2, ih _ (by omega), ih _ (by omega)]
theorem foOf_one {nd : Nd} {a : List Nd} (ha : mayL a = true) (hk : kidc nd.kind = 1) : foOf (overL nd a []) = .o nd.kind nd.lo nd.hi (foOf a) := by
 have h1 := may_ne ha
 have ht := over_top nd a []
 rw [if_neg (show a ≠ [] from fun e => by rw [e] at h1; exact absurd h1 (by decide)), List.length_nil, Nat.add_zero] at ht
 have hkd : kindN (overL nd a []) a.length = nd.kind := by unfold kindN; rw [ht]; rfl
 have k0 : kidN (overL nd a []) a.length 0 = a.length - 1 := by
  unfold kidN; rw [ht]
  show ((a.length : Int) - 1).toNat = a.length - 1
  omega
 have e1 : foL (overL nd a []) a.length (a.length - 1) = foOf a := by
  rw [foL_left ha (over_left nd a []) _ _ (by omega)]
  exact foL_fuel ha _ (by omega) _ _ (by omega) (by omega)
 have el : loN (overL nd a []) a.length = nd.lo := by unfold loN; rw [ht]; rfl
 have eh : hiN (overL nd a []) a.length = nd.hi := by unfold hiN; rw [ht]; rfl
 show foL (overL nd a []) ((overL nd a []).length - 1 + 1) ((overL nd a []).length - 1) = _
 rw [Paths.over_len, List.length_nil, Nat.add_zero, Nat.add_sub_cancel]
 show foL (overL nd a []) (a.length + 1) a.length = _
 unfold foL
 rw [hkd, k0, e1, el, eh, if_neg (by omega), if_pos hk]
theorem foOf_two {nd : Nd} {a b : List Nd} (ha : mayL a = true) (hb : mayL b = true) (hk : kidc nd.kind = 2) : foOf (overL nd a b) = .t nd.kind nd.lo nd.hi (foOf a) (foOf b) := by
 have h1 := may_ne ha
 have h2 := may_ne hb
 have ht := over_top nd a b
 rw [if_neg (show a ≠ [] from fun e => by rw [e] at h1; exact absurd h1 (by decide)), if_neg (show b ≠ [] from fun e => by rw [e] at h2; exact absurd h2 (by decide))] at ht
 have hkd : kindN (overL nd a b) (a.length + b.length) = nd.kind := by unfold kindN; rw [ht]; rfl
 have k0 : kidN (overL nd a b) (a.length + b.length) 0 = a.length - 1 := by
  unfold kidN; rw [ht]
  show ((a.length : Int) - 1).toNat = a.length - 1
  omega
 have k1 : kidN (overL nd a b) (a.length + b.length) 1 = (b.length - 1) + a.length := by
  unfold kidN; rw [ht]
  show ((a.length : Int) + b.length - 1).toNat = b.length - 1 + a.length
  omega
 have e1 : foL (overL nd a b) (a.length + b.length) (a.length - 1) = foOf a := by
  rw [foL_left ha (over_left nd a b) _ _ (by omega)]
  exact foL_fuel ha _ (by omega) _ _ (by omega) (by omega)
 have e2 : foL (overL nd a b) (a.length + b.length) (b.length - 1 + a.length) = foOf b := by
  rw [foL_right hb (over_right nd a b) _ _ (by omega)]
  exact foL_fuel hb _ (by omega) _ _ (by omega) (by omega)
 have el : loN (overL nd a b) (a.length + b.length) = nd.lo := by unfold loN; rw [ht]; rfl
 have eh : hiN (overL nd a b) (a.length + b.length) = nd.hi := by unfold hiN; rw [ht]; rfl
 show foL (overL nd a b) ((overL nd a b).length - 1 + 1) ((overL nd a b).length - 1) = _
 rw [Paths.over_len, Nat.add_sub_cancel]
 unfold foL
 rw [hkd, k0, k1, e1, e2, el, eh, if_neg (by omega), if_neg (by omega)]
theorem kidc_reg {k : Int} (h : regKind k = true) : (k = 18 ∧ kidc k = 0) ∨ (k = 19 ∧ kidc k = 1) ∨ ((k = 20 ∨ k = 21) ∧ kidc k = 2) ∨ (k = 22 ∧ kidc k = 1) := by
 have h : 18 ≤ k ∧ k ≤ 22 := of_decide_eq_true h
 obtain rfl | rfl | rfl | rfl | rfl : k = 18 ∨ k = 19 ∨ k = 20 ∨ k = 21 ∨ k = 22 := by omega
 ·exact .inl ⟨rfl, rfl⟩
 ·exact .inr (.inl ⟨rfl, rfl⟩)
 ·exact .inr (.inr (.inl ⟨.inl rfl, rfl⟩))
 ·exact .inr (.inr (.inl ⟨.inr rfl, rfl⟩))
 ·exact .inr (.inr (.inr ⟨rfl, rfl⟩))
theorem reI_step {l : List Nd} {i : Nat} (e : kindN l i = 18) : reI l i = .step := by unfold reI reL; rw [if_pos e]
theorem reI_test {l : List Nd} {i : Nat} (e : kindN l i = 19) : reI l i = .test i := by unfold reI reL; rw [if_neg (by omega), if_pos e]
theorem reI_alt {l : List Nd} (h : mayL l = true) {i : Nat} (hi : i < l.length) (e : kindN l i = 20) : reI l i = .alt (reI l (kidN l i 0)) (reI l (kidN l i 1)) := by
 obtain ⟨a1, a2⟩ := kidN_two h hi (by rw [e]; rfl)
 show reL l (i + 1) i = _
 unfold reL
 rw [if_neg (by omega), if_neg (by omega), if_pos e, reI_eq h (by omega) a1, reI_eq h (by omega) a2]
theorem reI_seq {l : List Nd} (h : mayL l = true) {i : Nat} (hi : i < l.length) (e : kindN l i = 21) : reI l i = .seq (reI l (kidN l i 0)) (reI l (kidN l i 1)) := by
 obtain ⟨a1, a2⟩ := kidN_two h hi (by rw [e]; rfl)
 show reL l (i + 1) i = _
 unfold reL
 rw [if_neg (by omega), if_neg (by omega), if_neg (by omega), if_pos e, reI_eq h (by omega) a1, reI_eq h (by omega) a2]
theorem reI_many {l : List Nd} (h : mayL l = true) {i : Nat} (hi : i < l.length) (e : kindN l i = 22) : reI l i = .many (reI l (kidN l i 0)) := by
 have a1 := kidN_one h hi (by rw [e]; rfl)
 show reL l (i + 1) i = _
 unfold reL
 rw [if_neg (by omega), if_neg (by omega), if_neg (by omega), if_neg (by omega), if_pos e, reI_eq h (by omega) a1]
theorem kid_reg2 {l : List Nd} (h : mayL l = true) {i : Nat} (hi : i < l.length) (e : kindN l i = 20 ∨ kindN l i = 21) : regKind (kindN l (kidN l i 0)) = true ∧ regKind (kindN l (kidN l i 1)) = true := by
 obtain ⟨n, t, -, -, -, -, -, h6, h7, -, h9, h10⟩ := node_two h hi (by rcases e with e | e <;> rw [e] <;> rfl)
 have : takesReg (kindN l i) = true := by rcases e with e | e <;> rw [e] <;> rfl
 rw [h6, h7, h9, h10]
 exact ⟨this, this⟩
theorem kid_reg1 {l : List Nd} (h : mayL l = true) {i : Nat} (hi : i < l.length) (e : kindN l i = 22 ∨ kindN l i = 16 ∨ kindN l i = 17) : regKind (kindN l (kidN l i 0)) = true := by
 obtain ⟨n, -, -, -, -, h6, h7⟩ := node_one h hi (by rcases e with e | e | e <;> rw [e] <;> rfl)
 rw [h6, h7]
 rcases e with e | e | e <;> rw [e] <;> rfl
theorem way_sem {l : List Nd} (h : mayL l = true) (T : Tm) (ps : Nat → Nat → Prop) : ∀ i, i < l.length → regKind (kindN l i) = true → ∀ k, (∀ q y, (tsE (reI l i))[q]? = some y → ∀ p, p < T.n → (ps p (k + q) ↔ sem T (foI l (kidN l y 0)) p p)) → ∀ a b, wayR ps T.n (reI l i) k a b ↔ sem T (foI l i) a b := by
 intro i
 induction i using Nat.strongRecOn with
 | ind i ih =>
  intro hi hr k hq a b
  rcases kidc_reg hr with ⟨e, hk⟩ | ⟨e, hk⟩ | ⟨e, hk⟩ | ⟨e, hk⟩
  ·rw [reI_step e, foI_zero hk, e]
   exact Iff.rfl
  ·rw [reI_test e] at hq ⊢
   rw [foI_one h hi hk, e]
   show (b = a ∧ a < T.n ∧ ps a k) ↔ (b = a ∧ a < T.n ∧ sem T (foI l (kidN l i 0)) a a)
   refine and_congr_right fun _ => and_congr_right fun ha => ?_
   exact hq 0 i rfl a ha
  ·obtain ⟨a1, a2⟩ := kidN_two h hi hk
   obtain ⟨r1, r2⟩ := kid_reg2 h hi e
   rw [foI_two h hi hk]
   have both : (∀ q y, (tsE (reI l (kidN l i 0)) ++ tsE (reI l (kidN l i 1)))[q]? = some y → ∀ p, p < T.n → (ps p (k + q) ↔ sem T (foI l (kidN l y 0)) p p)) →
     (∀ a b, wayR ps T.n (reI l (kidN l i 0)) k a b ↔ sem T (foI l (kidN l i 0)) a b) ∧ (∀ a b, wayR ps T.n (reI l (kidN l i 1)) (k + nts (reI l (kidN l i 0))) a b ↔ sem T (foI l (kidN l i 1)) a b) := fun hq => by
    constructor
    ·refine ih _ a1 (by omega) r1 k fun q y hy => hq q y ?_
     rw [List.getElem?_append_left (List.getElem?_eq_some_iff.1 hy).1]
     exact hy
    ·refine ih _ a2 (by omega) r2 _ fun q y hy p hp => ?_
     rw [Nat.add_assoc]
     refine hq (nts (reI l (kidN l i 0)) + q) y ?_ p hp
     rw [List.getElem?_append_right (by rw [tsE_len]; omega), tsE_len, Nat.add_sub_cancel_left]
     exact hy
   rcases e with e | e
   ·rw [reI_alt h hi e] at hq ⊢
    obtain ⟨b1, b2⟩ := both hq
    rw [e]
    exact or_congr (b1 a b) (b2 a b)
   ·rw [reI_seq h hi e] at hq ⊢
    obtain ⟨b1, b2⟩ := both hq
    rw [e]
    exact exists_congr fun m => and_congr (b1 a m) (b2 m b)
  ·have a1 := kidN_one h hi hk
   rw [reI_many h hi e] at hq ⊢
   rw [foI_one h hi hk, e]
   have hk1 := ih _ a1 (by omega) (kid_reg1 h hi (.inl e)) k hq
   exact and_congr_right fun _ => chain_iff2 hk1 a b
def bareE : RE → RE
 | .test _ => .test 0
 | .alt a b => .alt (bareE a) (bareE b)
 | .seq a b => .seq (bareE a) (bareE b)
 | .many a => .many (bareE a)
 | x => x
theorem nts_bare : ∀ x : RE, nts (bareE x) = nts x := by
 intro x
 induction x with
 | no => rfl
 | step => rfl
 | test x => rfl
 | alt a b iha ihb => simp only [bareE, nts, iha, ihb]
 | seq a b iha ihb => simp only [bareE, nts, iha, ihb]
 | many a iha => simp only [bareE, nts, iha]
theorem wayR_bare (ps : Nat → Nat → Prop) (n : Nat) : ∀ (x : RE) (k : Nat), wayR ps n (bareE x) k = wayR ps n x k := by
 intro x
 induction x with
 | no => intro k; rfl
 | step => intro k; rfl
 | test x => intro k; rfl
 | alt a b iha ihb => intro k; funext i j; simp only [bareE, wayR, iha, ihb, nts_bare]
 | seq a b iha ihb => intro k; funext i j; simp only [bareE, wayR, iha, ihb, nts_bare]
 | many a iha => intro k; funext i j; simp only [bareE, wayR, iha]
theorem bare_shE (d : Nat) : ∀ x : RE, bareE (shE d x) = bareE x := by
 intro x
 induction x with
 | no => rfl
 | step => rfl
 | test x => rfl
 | alt a b iha ihb => simp only [bareE, shE, iha, ihb]
 | seq a b iha ihb => simp only [bareE, shE, iha, ihb]
 | many a iha => simp only [bareE, shE, iha]
def redE : RE → List Nd
 | .test _ => overL (kindNd 19) [kindNd 1] []
 | .alt a b => overL (kindNd 20) (redE a) (redE b)
 | .seq a b => overL (kindNd 21) (redE a) (redE b)
 | .many a => overL (kindNd 22) (redE a) []
 | _ => [kindNd 18]
def hasNo : RE → Bool
 | .no => true
 | .alt a b => hasNo a || hasNo b
 | .seq a b => hasNo a || hasNo b
 | .many a => hasNo a
 | _ => false
theorem red_ok : ∀ x : RE, hasNo x = false → regL (redE x) = true ∧ bareE (reOf (redE x)) = bareE x := by
 intro x
 induction x with
 | no => intro h; cases h
 | step => intro _; exact ⟨by decide, rfl⟩
 | test x => intro _; exact ⟨(by decide : regL (overL (kindNd 19) [kindNd 1] []) = true), rfl⟩
 | alt a b iha ihb =>
  intro h
  have h : (hasNo a || hasNo b) = false := h
  rw [Bool.or_eq_false_iff] at h
  obtain ⟨a1, a2⟩ := iha h.1
  obtain ⟨b1, b2⟩ := ihb h.2
  refine ⟨reg_two a1 b1 (.inl rfl), ?_⟩
  show bareE (reOf (overL (kindNd 20) (redE a) (redE b))) = _
  rw [reOf_two (may_of_reg a1) (may_of_reg b1) (.inl rfl), if_pos (by rfl)]
  simp only [bareE, bare_shE, a2, b2]
 | seq a b iha ihb =>
  intro h
  have h : (hasNo a || hasNo b) = false := h
  rw [Bool.or_eq_false_iff] at h
  obtain ⟨a1, a2⟩ := iha h.1
  obtain ⟨b1, b2⟩ := ihb h.2
  refine ⟨reg_two a1 b1 (.inr rfl), ?_⟩
  show bareE (reOf (overL (kindNd 21) (redE a) (redE b))) = _
  rw [reOf_two (may_of_reg a1) (may_of_reg b1) (.inr rfl), if_neg (by decide)]
  simp only [bareE, bare_shE, a2, b2]
 | many a iha =>
  intro h
  obtain ⟨a1, a2⟩ := iha h
  refine ⟨reg_one a1 rfl, ?_⟩
  show bareE (reOf (overL (kindNd 22) (redE a) [])) = _
  rw [reOf_one (may_of_reg a1) rfl]
  simp only [bareE, a2]
theorem reI_noNo {l : List Nd} (h : mayL l = true) : ∀ i, i < l.length → regKind (kindN l i) = true → hasNo (reI l i) = false := by
 intro i
 induction i using Nat.strongRecOn with
 | ind i ih =>
  intro hi hr
  rcases kidc_reg hr with ⟨e, hk⟩ | ⟨e, hk⟩ | ⟨e, hk⟩ | ⟨e, hk⟩
  ·rw [reI_step e]; rfl
  ·rw [reI_test e]; rfl
  ·obtain ⟨a1, a2⟩ := kidN_two h hi hk
   obtain ⟨r1, r2⟩ := kid_reg2 h hi e
   have x1 := ih _ a1 (by omega) r1
   have x2 := ih _ a2 (by omega) r2
   rcases e with e | e
   ·rw [reI_alt h hi e]; simp only [hasNo, x1, x2, Bool.or_self]
   ·rw [reI_seq h hi e]; simp only [hasNo, x1, x2, Bool.or_self]
  ·have a1 := kidN_one h hi hk
   rw [reI_many h hi e]
   exact ih _ a1 (by omega) (kid_reg1 h hi (.inl e))
end Go.Proofs.YtdbgaccnejffpaaGreatDoor.Sat

namespace Go.Proofs.YtdbgaccnejffpaaGreatDoor.Sat
open Go.RowKit Go.Proofs.YtdbgaccnejffpaaGreatDoor.Ints Go.Proofs.YtdbgaccnejffpaaGreatDoor.Tree Go.Proofs.YtdbgaccnejffpaaGreatDoor.Paths
def took (l : List Nd) (k i : Nat) : Prop :=
 ((kindN l k = 16 ∨ kindN l k = 17) ∧ i ∈ tsE (reI l (kidN l k 0))) ∨
 (takesReg (kindN l k) = false ∧ ((kidc (kindN l k) = 1 ∧ i = kidN l k 0) ∨ (kidc (kindN l k) = 2 ∧ (i = kidN l k 0 ∨ i = kidN l k 1))))
def dead (l : List Nd) (k i : Nat) : Prop := ∃ p, p < k ∧ took l p i
theorem tests_range {l : List Nd} (h : mayL l = true) {r y : Nat} (hr : r < l.length) (hk : regKind (kindN l r) = true) (hy : y ∈ tsE (reI l r)) : startL l r ≤ y ∧ y ≤ r ∧ kindN l y = 19 := by
 unfold reI at hy
 rw [tests_part h (r + 1) r hr (by omega) hk, List.mem_filter, List.mem_range'_1] at hy
 have h2 := (of_decide_eq_true hy.2).1
 exact ⟨hy.1.1, by have := hy.1.2; have := start_within_self h hr; omega, h2⟩
theorem tests_nodup {l : List Nd} (h : mayL l = true) {r : Nat} (hr : r < l.length) (hk : regKind (kindN l r) = true) : (tsE (reI l r)).Nodup := by
 unfold reI
 rw [tests_part h (r + 1) r hr (by omega) hk]
 exact List.Nodup.sublist List.filter_sublist (List.nodup_range' ..)
theorem took_range {l : List Nd} (h : mayL l = true) {k i : Nat} (hk : k < l.length) (ht : took l k i) : startL l k ≤ i ∧ i < k := by
 rcases ht with ⟨e, hy⟩ | ⟨-, ⟨e, hy⟩ | ⟨e, hy⟩⟩
 ·obtain ⟨n, -, -, h3, h4, h5, -⟩ := node_one h hk (by rcases e with e | e <;> rw [e] <;> rfl)
  have hr := kid_reg1 h hk (.inr e)
  rw [h5] at hy hr
  obtain ⟨a1, a2, -⟩ := tests_range h (by omega) hr hy
  rw [h4]
  omega
 ·obtain ⟨n, -, -, h3, h4, h5, -⟩ := node_one h hk e
  have := start_within_self h (show k - 1 < l.length by omega)
  rw [h4]
  omega
 ·obtain ⟨n, t, -, -, h3, h4, h5, h6, h7, h8, -⟩ := node_two h hk e
  rw [h4]
  have := start_within_self h (show k - 1 < l.length by omega)
  omega
theorem over_test {l : List Nd} (h : mayL l = true) : ∀ r, r < l.length → regKind (kindN l r) = true → ∀ y, y ∈ tsE (reI l r) → ∀ p, y < p → p ≤ r → startL l p ≤ y → takesReg (kindN l p) = true ∧ kindN l p ≠ 16 ∧ kindN l p ≠ 17 := by
 intro r
 induction r using Nat.strongRecOn with
 | ind r ih =>
  intro hi hr y hy p h1 h2 h3
  rcases kidc_reg hr with ⟨e, hk⟩ | ⟨e, hk⟩ | ⟨e, hk⟩ | ⟨e, hk⟩
  ·rw [reI_step e] at hy; cases hy
  ·rw [reI_test e] at hy
   have : y = r := List.mem_singleton.1 hy
   omega
  ·by_cases hp : p = r
   ·subst hp
    rcases e with e | e <;> rw [e] <;> exact ⟨by decide, by decide, by decide⟩
   obtain ⟨n, t, -, -, g3, g4, g5, g6, g7, g8, -⟩ := node_two h hi hk
   obtain ⟨r1, r2⟩ := kid_reg2 h hi e
   have hy : y ∈ tsE (reI l (kidN l r 0)) ∨ y ∈ tsE (reI l (kidN l r 1)) := by
    rcases e with e | e
    ·rw [reI_alt h hi e] at hy; exact List.mem_append.1 hy
    ·rw [reI_seq h hi e] at hy; exact List.mem_append.1 hy
   rw [g6] at hy r1
   rw [g7] at hy r2
   rcases hy with hy | hy
   ·obtain ⟨-, b2, -⟩ := tests_range h (by omega) r1 hy
    rcases Nat.lt_or_ge t p with hq | hq
    ·have := (start_within h (r - 1) (by omega) p (by omega) (by omega)).1
     omega
    ·exact ih t (by omega) (by omega) r1 y hy p h1 hq h3
   ·exact ih (r - 1) (by omega) (by omega) r2 y hy p h1 (by omega) h3
  ·by_cases hp : p = r
   ·subst hp
    rw [e]; exact ⟨by decide, by decide, by decide⟩
   obtain ⟨n, -, -, g3, g4, g5, -⟩ := node_one h hi hk
   have r1 := kid_reg1 h hi (.inl e)
   rw [reI_many h hi e] at hy
   rw [g5] at hy r1
   exact ih (r - 1) (by omega) (by omega) r1 y hy p h1 (by omega) h3
theorem took_kind {l : List Nd} {p i : Nat} (ht : took l p i) : ¬ (takesReg (kindN l p) = true ∧ kindN l p ≠ 16 ∧ kindN l p ≠ 17) := by
 rintro ⟨h1, h2, h3⟩
 rcases ht with ⟨e, -⟩ | ⟨e, -⟩
 ·exact e.elim h2 h3
 ·rw [e] at h1; cases h1
theorem fresh {l : List Nd} (h : mayL l = true) {k i : Nat} (hk : k < l.length) (ht : took l k i) : ¬ dead l k i := by
 rintro ⟨p, hp, htp⟩
 obtain ⟨s1, s2⟩ := took_range h (by omega) htp
 rcases ht with ⟨e, hy⟩ | ⟨-, ⟨e, hy⟩ | ⟨e, hy⟩⟩
 ·obtain ⟨n, -, -, h3, h4, h5, -⟩ := node_one h hk (by rcases e with e | e <;> rw [e] <;> rfl)
  have hr := kid_reg1 h hk (.inr e)
  rw [h5] at hy hr
  exact took_kind htp (over_test h (k - 1) (by omega) hr i hy p s2 (by omega) s1)
 ·obtain ⟨n, -, -, h3, h4, h5, -⟩ := node_one h hk e
  omega
 ·obtain ⟨n, t, -, -, h3, h4, h5, h6, h7, h8, -⟩ := node_two h hk e
  rcases hy with hy | hy
  ·have := (start_within h (k - 1) (by omega) p (by omega) (by omega)).1
   omega
  ·omega
theorem dead_succ {l : List Nd} {k i : Nat} : dead l (k + 1) i ↔ dead l k i ∨ took l k i := by
 constructor
 ·rintro ⟨p, hp, ht⟩
  by_cases e : p = k
  ·exact .inr (e ▸ ht)
  ·exact .inl ⟨p, by omega, ht⟩
 ·rintro (⟨p, hp, ht⟩ | ht)
  ·exact ⟨p, by omega, ht⟩
  ·exact ⟨k, by omega, ht⟩
theorem root_live {l : List Nd} (h : mayL l = true) : ¬ dead l l.length (l.length - 1) := by
 rintro ⟨p, hp, ht⟩
 have := (took_range h hp ht).2
 omega
end Go.Proofs.YtdbgaccnejffpaaGreatDoor.Sat
