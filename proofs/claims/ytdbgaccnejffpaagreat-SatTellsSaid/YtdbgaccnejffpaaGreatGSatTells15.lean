/-
  The nodes of a regular expression as a tree; its tests, numbered as they stand in the list (stage 14). By an AI agent.
  The landed graph in memory: a block of four cells, two rows of edges of its own (stage 14). By an AI agent.
-/
import Derived.Test.YtdbgaccnejffpaaGreatGSatTells12
import Derived.Test.YtdbgaccnejffpaaGreatGSatTells13
import Derived.Test.YtdbgaccnejffpaaGreatGSatTells14
import Derived.Test.YtdbgaccnejffpaaGreatGSatTells2
import Derived.Deep.AppendLies
namespace Go.Proofs.YtdbgaccnejffpaaGreat.Paths
open Go.RowKit Go.Proofs.YtdbgaccnejffpaaGreat.Ints Go.Proofs.YtdbgaccnejffpaaGreat.Tree Go.Proofs.YtdbgaccnejffpaaGreat.BitsWalks
theorem node_over {l : List Nd} (h : mayL l = true) {i : Nat} {n : Nd} (hn : l[i]? = some n) : ∃ st, Over l (startL l i) i n st ∧ n.kids = zints st ∧ st.length = kidc n.kind ∧ fieldsB n = true ∧ kidsB l n = true := by
 have hi := (List.getElem?_eq_some_iff.1 hn).1
 obtain ⟨st1, hst⟩ := upTo_some (l := l) (i := i + 1) (by obtain ⟨s, h1, -⟩ := may_all h; rw [h1]; rfl) hi
 obtain ⟨st, n', hu, hn', ⟨c1, c2, c3, c4⟩, -⟩ := upTo_succ hst
 obtain rfl : n' = n := by rw [hn] at hn'; injection hn' with hn'; exact hn'.symm
 have hT := tiles_upTo h i st (by omega) hu
 have hsp : st.take (st.length - kidc n'.kind) ++ st.drop (st.length - kidc n'.kind) = st := List.take_append_drop _ _
 rw [← hsp, tiles_append] at hT
 obtain ⟨m, hT1, hT2⟩ := hT
 have hz : n'.kids = zints (st.drop (st.length - kidc n'.kind)) := by rw [c2]; unfold zints; rw [List.map_drop]
 have hl : (st.drop (st.length - kidc n'.kind)).length = kidc n'.kind := by rw [List.length_drop]; omega
 have hO := good_over (kids_ahead h) hn hT2 hz hl
 have hm : startL l i = m := by rcases hO with ⟨-, -, -, e⟩ | ⟨t, -, -, -, -, e⟩ | ⟨t, u, -, -, -, -, -, e⟩ <;> exact e
 rw [hm]
 exact ⟨_, hO, hz, hl, c3, c4⟩
theorem kind_some {l : List Nd} {i : Nat} (hi : i < l.length) : ∃ n, l[i]? = some n ∧ kindN l i = n.kind := by
 obtain ⟨n, hn⟩ : ∃ n, l[i]? = some n := ⟨_, List.getElem?_eq_getElem hi⟩
 exact ⟨n, hn, kind_of hn⟩
theorem kindAt_N (l : List Nd) (t : Nat) : kindAt l (t : Int) = (kindN l t) := by
 unfold kindAt kindN
 rw [Int.toNat_natCast]
theorem node_leaf {l : List Nd} (h : mayL l = true) {i : Nat} (hi : i < l.length) (hk : kidc (kindN l i) = 0) : startL l i = i := by
 obtain ⟨n, hn, e⟩ := kind_some hi
 obtain ⟨st, hO, -, hl, -⟩ := node_over h hn
 rw [e] at hk
 rcases hO with ⟨-, e, -, -⟩ | ⟨t, rfl, -⟩ | ⟨t, u, rfl, -⟩
 ·exact e
 ·simp at hl; omega
 ·simp at hl; omega
theorem node_one {l : List Nd} (h : mayL l = true) {i : Nat} (hi : i < l.length) (hk : kidc (kindN l i) = 1) : ∃ n, l[i]? = some n ∧ n.kids = [((i - 1 : Nat) : Int)] ∧ 0 < i ∧ startL l i = startL l (i - 1) ∧ kidN l i 0 = i - 1 ∧ regKind (kindN l (i - 1)) = takesReg (kindN l i) := by
 obtain ⟨n, hn, e⟩ := kind_some hi
 obtain ⟨st, hO, hz, hl, -, hb⟩ := node_over h hn
 rw [e] at hk
 rcases hO with ⟨rfl, -⟩ | ⟨t, rfl, hg, ht, -, -⟩ | ⟨t, u, rfl, -⟩
 ·simp at hl; omega
 ·obtain rfl : t = i - 1 := by omega
  have hz : n.kids = [((i - 1 : Nat) : Int)] := hz
  refine ⟨n, hn, hz, by omega, hg.2.2.2.symm, ?_, ?_⟩
  ·unfold kidN
   rw [hn]
   show ((n.kids)[0]?.getD 0).toNat = i - 1
   rw [hz]
   show (((i - 1 : Nat) : Int)).toNat = i - 1
   omega
  ·unfold kidsB at hb
   rw [hz, List.all_cons, List.all_nil, Bool.and_true, beq_iff_eq, kindAt_N] at hb
   rw [e]
   exact hb
 ·simp at hl; omega
theorem node_two {l : List Nd} (h : mayL l = true) {i : Nat} (hi : i < l.length) (hk : kidc (kindN l i) = 2) : ∃ (n : Nd) (t : Nat), l[i]? = some n ∧ n.kids = [(t : Int), ((i - 1 : Nat) : Int)] ∧ t + 1 < i ∧ startL l i = startL l t ∧ startL l (i - 1) = t + 1 ∧ kidN l i 0 = t ∧ kidN l i 1 = i - 1 ∧ startL l t ≤ t ∧ regKind (kindN l t) = takesReg (kindN l i) ∧ regKind (kindN l (i - 1)) = takesReg (kindN l i) := by
 obtain ⟨n, hn, e⟩ := kind_some hi
 obtain ⟨st, hO, hz, hl, -, hb⟩ := node_over h hn
 rw [e] at hk
 rcases hO with ⟨rfl, -⟩ | ⟨t, rfl, -⟩ | ⟨t, u, rfl, hg, hg2, hu, -, -⟩
 ·simp at hl; omega
 ·simp at hl; omega
 ·obtain rfl : u = i - 1 := by omega
  have hz : n.kids = [(t : Int), ((i - 1 : Nat) : Int)] := hz
  have h1 := hg.2.2.2
  have h2 := hg2.2.2.2
  have h3 := hg2.1
  unfold kidsB at hb
  rw [hz, List.all_cons, List.all_cons, List.all_nil, Bool.and_true, Bool.and_eq_true, beq_iff_eq, beq_iff_eq, kindAt_N, kindAt_N] at hb
  refine ⟨n, t, hn, hz, by omega, h1.symm, h2, ?_, ?_, by rw [h1]; exact hg.1, by rw [e]; exact hb.1, by rw [e]; exact hb.2⟩
  ·unfold kidN
   rw [hn]
   show ((n.kids)[0]?.getD 0).toNat = t
   rw [hz]
   show ((t : Int)).toNat = t
   omega
  ·unfold kidN
   rw [hn]
   show ((n.kids)[1]?.getD 0).toNat = i - 1
   rw [hz]
   show (((i - 1 : Nat) : Int)).toNat = i - 1
   omega
theorem kidc_ways (k : Int) : kidc k = 0 ∨ kidc k = 1 ∨ kidc k = 2 := by
 unfold kidc
 split
 ·exact .inl rfl
 ·split
  ·exact .inr (.inr rfl)
  ·exact .inr (.inl rfl)
theorem start_within {l : List Nd} (h : mayL l = true) : ∀ i, i < l.length → ∀ k, startL l i ≤ k → k ≤ i → startL l i ≤ startL l k ∧ startL l k ≤ k := by
 intro i
 induction i using Nat.strongRecOn with
 | ind i ih =>
  intro hi k h1 h2
  by_cases hk : k = i
  ·subst hk
   exact ⟨Nat.le_refl _, h1⟩
  ·rcases kidc_ways (kindN l i) with e | e | e
   ·rw [node_leaf h hi e] at h1
    omega
   ·obtain ⟨n, -, -, h3, h4, -⟩ := node_one h hi e
    rw [h4] at h1 ⊢
    exact ih (i - 1) (by omega) (by omega) k h1 (by omega)
   ·obtain ⟨n, t, -, -, h3, h4, h5, -, -, h8, -⟩ := node_two h hi e
    rw [h4] at h1 ⊢
    rcases Nat.lt_or_ge t k with h6 | h6
    ·have := ih (i - 1) (by omega) (by omega) k (by omega) (by omega)
     exact ⟨by omega, this.2⟩
    ·exact ih t (by omega) (by omega) k h1 h6
theorem start_within_self {l : List Nd} (h : mayL l = true) {i : Nat} (hi : i < l.length) : startL l i ≤ i := (part_good h hi).1
def reL (l : List Nd) : Nat → Nat → RE
 | 0, _ => .no
 | f + 1, i =>
  if kindN l i = 18 then .step else if kindN l i = 19 then .test i
  else if kindN l i = 20 then .alt (reL l f (kidN l i 0)) (reL l f (kidN l i 1))
  else if kindN l i = 21 then .seq (reL l f (kidN l i 0)) (reL l f (kidN l i 1))
  else if kindN l i = 22 then .many (reL l f (kidN l i 0)) else .no
def tsE : RE → List Nat
 | .test x => [x]
 | .alt a b => tsE a ++ tsE b
 | .seq a b => tsE a ++ tsE b
 | .many a => tsE a
 | _ => []
theorem tsE_len : ∀ x : RE, (tsE x).length = nts x := by
 intro x
 induction x with
 | no => rfl
 | step => rfl
 | test x => rfl
 | alt a b iha ihb => simp only [tsE, nts, List.length_append, iha, ihb]
 | seq a b iha ihb => simp only [tsE, nts, List.length_append, iha, ihb]
 | many a iha => simp only [tsE, nts, iha]
def inU (l : List Nd) (i x : Nat) : Prop := ∃ k, x < k ∧ k ≤ i ∧ kindN l k = 19 ∧ startL l k ≤ x
instance (l : List Nd) (i x : Nat) : Decidable (inU l i x) := decidable_of_iff (∃ k, k < i + 1 ∧ (x < k ∧ kindN l k = 19 ∧ startL l k ≤ x)) (by
 unfold inU
 constructor
 ·rintro ⟨k, h1, h2, h3, h4⟩; exact ⟨k, h2, by omega, h3, h4⟩
 ·rintro ⟨k, h1, h2, h3, h4⟩; exact ⟨k, by omega, h1, h3, h4⟩)
theorem inside_inU {l : List Nd} {x : Nat} (h0 : 0 < l.length) : insideB l x = true ↔ inU l (l.length - 1) x := by
 unfold insideB inU
 rw [List.any_eq_true]
 constructor
 ·rintro ⟨k, hk, hc⟩
  rw [Bool.and_eq_true, Bool.and_eq_true, decide_eq_true_eq, decide_eq_true_eq, decide_eq_true_eq] at hc
  have := List.mem_range.1 hk
  exact ⟨k, hc.1, by omega, hc.2.1, hc.2.2⟩
 ·rintro ⟨k, h1, h2, h3, h4⟩
  exact ⟨k, List.mem_range.2 (by omega), by rw [decide_eq_true h1, decide_eq_true h3, decide_eq_true h4]; rfl⟩
def pickU (l : List Nd) (i x : Nat) : Bool := decide (kindN l x = 19 ∧ ¬ inU l i x)
theorem pick_top {l : List Nd} {i : Nat} (h : kindN l i ≠ 19) : pickU l i i = false := decide_eq_false (fun e => h e.1)
theorem pick_congr {l : List Nd} {i t x : Nat} (h : inU l i x ↔ inU l t x) : pickU l i x = pickU l t x := decide_eq_decide.2 (by rw [h])
set_option maxRecDepth 20000 in
theorem tests_part {l : List Nd} (h : mayL l = true) : ∀ (f i : Nat), i < l.length → i < f → regKind (kindN l i) = true → tsE (reL l f i) = (List.range' (startL l i) (i + 1 - startL l i)).filter (pickU l i) := by
 intro f
 induction f with
 | zero => intro i _ hf; omega
 | succ f ih =>
  intro i hi hf hr
  have hk : 18 ≤ kindN l i ∧ kindN l i ≤ 22 := of_decide_eq_true hr
  have hsi := (start_within h i hi i (start_within_self h hi) (Nat.le_refl _)).2
  unfold reL
  by_cases e18 : kindN l i = 18
  ·have hs := node_leaf h hi (by rw [e18]; decide)
   rw [if_pos e18, hs, show i + 1 - i = 1 by omega]
   show [] = [i].filter _
   rw [List.filter_cons, pick_top (by omega)]
   rfl
  rw [if_neg e18]
  by_cases e19 : kindN l i = 19
  ·rw [if_pos e19]
   obtain ⟨n, -, -, h3, h4, -⟩ := node_one h hi (by rw [e19]; decide)
   have hr : i + 1 - startL l i = (i - startL l i) + 1 := by omega
   rw [hr, List.range'_concat, List.filter_append]
   have ha : (List.range' (startL l i) (i - startL l i)).filter (pickU l i) = [] := by
    rw [List.filter_eq_nil_iff]
    intro x hx hc
    rw [List.mem_range'_1] at hx
    exact (of_decide_eq_true hc).2 ⟨i, by omega, Nat.le_refl _, e19, hx.1⟩
   rw [ha, List.nil_append, show startL l i + 1 * (i - startL l i) = i by omega, List.filter_cons]
   have hb : pickU l i i = true := decide_eq_true ⟨e19, fun ⟨k, h5, h6, _⟩ => by omega⟩
   rw [if_pos hb]
   rfl
  rw [if_neg e19]
  have two : (kindN l i = 20 ∨ kindN l i = 21) → tsE (reL l f (kidN l i 0)) ++ tsE (reL l f (kidN l i 1)) = (List.range' (startL l i) (i + 1 - startL l i)).filter (pickU l i) := fun e2 => by
   obtain ⟨n, t, -, -, h3, h4, h5, h6, h7, h8, h9, h10⟩ := node_two h hi (by rcases e2 with e2 | e2 <;> rw [e2] <;> decide)
   have hr : takesReg (kindN l i) = true := by rcases e2 with e2 | e2 <;> rw [e2] <;> decide
   rw [hr] at h9 h10
   rw [h6, h7, ih t (by omega) (by omega) h9, ih (i - 1) (by omega) (by omega) h10, h4, h5]
   have e1 : i + 1 - startL l t = (t + 1 - startL l t) + ((i - 1 + 1 - (t + 1)) + 1) := by omega
   rw [e1, ← List.range'_append_1, List.filter_append, show startL l t + (t + 1 - startL l t) = t + 1 by omega, List.range'_concat, List.filter_append]
   rw [show t + 1 + 1 * (i - 1 + 1 - (t + 1)) = i by omega]
   have e3 : [i].filter (pickU l i) = [] := by rw [List.filter_cons, pick_top e19]; rfl
   rw [e3, List.append_nil]
   congr 1
   ·refine List.filter_congr fun x hx => ?_
    rw [List.mem_range'_1] at hx
    refine (pick_congr ?_).symm
    constructor
    ·rintro ⟨k, g1, g2, g3, g4⟩
     rcases Nat.lt_or_ge t k with g5 | g5
     ·rcases Nat.lt_or_ge k i with g6 | g6
      ·have := (start_within h (i - 1) (by omega) k (by omega) (by omega)).1
       omega
      ·obtain rfl : k = i := by omega
       exact absurd g3 e19
     ·exact ⟨k, g1, g5, g3, g4⟩
    ·rintro ⟨k, g1, g2, g3, g4⟩
     exact ⟨k, g1, by omega, g3, g4⟩
   ·refine List.filter_congr fun x hx => ?_
    refine (pick_congr ?_).symm
    constructor
    ·rintro ⟨k, g1, g2, g3, g4⟩
     rcases Nat.lt_or_ge k i with g6 | g6
     ·exact ⟨k, g1, by omega, g3, g4⟩
     ·obtain rfl : k = i := by omega
      exact absurd g3 e19
    ·rintro ⟨k, g1, g2, g3, g4⟩
     exact ⟨k, g1, by omega, g3, g4⟩
  by_cases e20 : kindN l i = 20
  ·rw [if_pos e20]
   exact two (.inl e20)
  rw [if_neg e20]
  by_cases e21 : kindN l i = 21
  ·rw [if_pos e21]
   exact two (.inr e21)
  rw [if_neg e21]
  have e22 : kindN l i = 22 := by omega
  rw [if_pos e22]
  obtain ⟨n, -, -, h3, h4, h5, h6⟩ := node_one h hi (by rw [e22]; decide)
  rw [show takesReg (kindN l i) = true by rw [e22]; decide] at h6
  show tsE (reL l f (kidN l i 0)) = _
  rw [h5, ih (i - 1) (by omega) (by omega) h6, h4]
  rw [h4] at hsi
  have hs1 := start_within_self h (show i - 1 < l.length by omega)
  rw [show i + 1 - startL l (i - 1) = (i - 1 + 1 - startL l (i - 1)) + 1 by omega, List.range'_concat, List.filter_append, show startL l (i - 1) + 1 * (i - 1 + 1 - startL l (i - 1)) = i by omega]
  have e3 : [i].filter (pickU l i) = [] := by rw [List.filter_cons, pick_top e19]; rfl
  rw [e3, List.append_nil]
  refine List.filter_congr fun x hx => ?_
  refine (pick_congr ?_).symm
  constructor
  ·rintro ⟨k, g1, g2, g3, g4⟩
   rcases Nat.lt_or_ge k i with g6 | g6
   ·exact ⟨k, g1, by omega, g3, g4⟩
   ·obtain rfl : k = i := by omega
    exact absurd g3 e19
  ·rintro ⟨k, g1, g2, g3, g4⟩
   exact ⟨k, g1, by omega, g3, g4⟩
theorem start_root {l : List Nd} (h : mayL l = true) : startL l (l.length - 1) = 0 := by
 have h0 := may_ne h
 obtain ⟨m, hm⟩ : ∃ m, l.length = m + 1 := ⟨l.length - 1, by omega⟩
 have htop := may_top h
 have hT := tiles_upTo h l.length _ (Nat.le_refl _) htop
 exact hT.1.2.2.2
theorem tests_whole {l : List Nd} (h : regL l = true) : tsE (reL l l.length (l.length - 1)) = placesR l 19 := by
 have hm : mayL l = true := by unfold regL at h; rw [Bool.and_eq_true] at h; exact h.1
 have h0 := may_ne hm
 have hr : regKind (kindN l (l.length - 1)) = true := by
  have h1 := reg_last hm
  rw [h] at h1
  rw [← kindAt_N, lastKind_at h0]
  exact h1.symm
 unfold placesR
 rw [if_pos h, tests_part hm l.length (l.length - 1) (by omega) (by omega) hr, start_root hm]
 unfold placesL
 rw [List.range_eq_range', show l.length - 1 + 1 - 0 = l.length by omega]
 refine List.filter_congr fun x _ => ?_
 unfold pickU
 rw [Bool.eq_iff_iff, decide_eq_true_eq, Bool.and_eq_true, decide_eq_true_eq, Bool.not_eq_true', ← Bool.not_eq_true, inside_inU h0]
theorem num_place {l : List Nat} (hl : l.Nodup) {q y : Nat} (h : l[q]? = some y) : numT (idxI l) ((y : Nat) : Int) = (q : Int) := by
 obtain ⟨hq, e⟩ := List.getElem?_eq_some_iff.1 h
 refine num_at (by unfold idxI; rw [List.length_map]; exact hq) ?_ (fun m hm e2 => ?_)
 ·unfold idxI
  rw [List.getElem?_map, h]
  rfl
 ·unfold idxI at e2
  rw [List.getElem?_map, List.getElem?_eq_getElem (by omega)] at e2
  have e3 : ((l[m]'(by omega) : Nat) : Int) = (y : Int) := e2
  have e4 : l[m]'(by omega) = l[q] := by rw [e]; omega
  exact (List.pairwise_iff_getElem.1 hl) m q (by omega) hq hm e4
theorem way_tree (l : List Nd) (ts : List Int) (vs : Nat → List Nat) (ps : Nat → Nat → Prop) (n : Nat) : ∀ (f i k : Nat), (∀ q y, (tsE (reL l f i))[q]? = some y → ∀ p, p < n → (hasI (vs p) (numT ts ((y : Nat) : Int)) = true ↔ ps p (k + q))) →
  ∀ a b, wayP (rxOf l ts vs) n f i a b ↔ wayR ps n (reL l f i) k a b := by
 intro f
 induction f with
 | zero => intro i k _ a b; exact Iff.rfl
 | succ f ih =>
  intro i k hq a b
  have left : ∀ x y : RE, (∀ q z, (tsE x ++ tsE y)[q]? = some z → ∀ p, p < n → (hasI (vs p) (numT ts ((z : Nat) : Int)) = true ↔ ps p (k + q))) → ∀ q z, (tsE x)[q]? = some z → ∀ p, p < n → (hasI (vs p) (numT ts ((z : Nat) : Int)) = true ↔ ps p (k + q)) := fun x y hx q z hz => hx q z (by rw [List.getElem?_append_left (List.getElem?_eq_some_iff.1 hz).1]; exact hz)
  have right : ∀ x y : RE, (∀ q z, (tsE x ++ tsE y)[q]? = some z → ∀ p, p < n → (hasI (vs p) (numT ts ((z : Nat) : Int)) = true ↔ ps p (k + q))) → ∀ q z, (tsE y)[q]? = some z → ∀ p, p < n → (hasI (vs p) (numT ts ((z : Nat) : Int)) = true ↔ ps p (k + nts x + q)) := fun x y hx q z hz => by
   have := hx (nts x + q) z (by rw [← tsE_len, List.getElem?_append_right (by omega), show (tsE x).length + q - (tsE x).length = q by omega]; exact hz)
   rwa [← Nat.add_assoc] at this
  unfold reL at hq ⊢
  unfold wayP
  show (a < n ∧ b < n ∧ if kindN l i = 18 then _ else _) ↔ _
  by_cases e18 : kindN l i = 18
  ·rw [if_pos e18, if_pos e18]
   constructor
   ·rintro ⟨h1, h2, h3⟩; exact ⟨h3, h2⟩
   ·rintro ⟨h1, h2⟩; exact ⟨by omega, h2, h1⟩
  rw [if_neg e18] at hq ⊢
  rw [if_neg e18]
  have hkd : (rxOf l ts vs).kd i = kindN l i := rfl
  rw [hkd]
  by_cases e19 : kindN l i = 19
  ·rw [if_pos e19] at hq ⊢
   rw [if_pos e19]
   constructor
   ·rintro ⟨h1, h2, h3, h4⟩
    exact ⟨h3, h1, (hq 0 i rfl a h1).1 h4⟩
   ·rintro ⟨h1, h2, h3⟩
    exact ⟨h2, by omega, h1, (hq 0 i rfl a h2).2 h3⟩
  rw [if_neg e19] at hq ⊢
  rw [if_neg e19]
  have hk0 : (rxOf l ts vs).k0 i = kidN l i 0 := rfl
  have hk1 : (rxOf l ts vs).k1 i = kidN l i 1 := rfl
  rw [hk0, hk1]
  have on := fun x y (h : wayP (rxOf l ts vs) n f x a y) => (way_on (rxOf l ts vs) n f x a y h)
  by_cases e20 : kindN l i = 20
  ·rw [if_pos e20] at hq ⊢
   rw [if_pos e20]
   have ia := ih (kidN l i 0) k (left _ _ hq) a b
   have ib := ih (kidN l i 1) _ (right _ _ hq) a b
   constructor
   ·rintro ⟨h1, h2, h3 | h3⟩
    ·exact .inl (ia.1 h3)
    ·exact .inr (ib.1 h3)
   ·rintro (h3 | h3)
    ·have h3 := ia.2 h3
     exact ⟨(on _ _ h3).1, (on _ _ h3).2, .inl h3⟩
    ·have h3 := ib.2 h3
     exact ⟨(on _ _ h3).1, (on _ _ h3).2, .inr h3⟩
  rw [if_neg e20] at hq ⊢
  rw [if_neg e20]
  by_cases e21 : kindN l i = 21
  ·rw [if_pos e21] at hq ⊢
   rw [if_pos e21]
   have ia := ih (kidN l i 0) k (left _ _ hq)
   have ib := ih (kidN l i 1) _ (right _ _ hq)
   constructor
   ·rintro ⟨h1, h2, m, h3, h4⟩
    exact ⟨m, (ia a m).1 h3, (ib m b).1 h4⟩
   ·rintro ⟨m, h3, h4⟩
    have h3 := (ia a m).2 h3
    have h4 := (ib m b).2 h4
    exact ⟨(on _ _ h3).1, (way_on _ n f _ m b h4).2, m, h3, h4⟩
  rw [if_neg e21] at hq ⊢
  rw [if_neg e21]
  by_cases e22 : kindN l i = 22
  ·rw [if_pos e22] at hq ⊢
   rw [if_pos e22]
   have ia := ih (kidN l i 0) k hq
   constructor
   ·rintro ⟨h1, h2, h3⟩
    exact ⟨h1, chain_mono (fun a b => (ia a b).1) h3⟩
   ·rintro ⟨h1, h3⟩
    exact ⟨h1, chain_on (wayR_on ps n _ k) h3 h1, chain_mono (fun a b => (ia a b).2) h3⟩
  rw [if_neg e22] at hq ⊢
  rw [if_neg e22]
  exact ⟨fun h => h.2.2, fun h => h.elim⟩
def psV (vs : Nat → List Nat) (i k : Nat) : Prop := hasI (vs i) ((k : Nat) : Int) = true
theorem table_tree {l : List Nd} (h : regL l = true) (vs : Nat → List Nat) (n : Nat) {i j : Nat} (hi : i < n) (hj : j < n) : tableR l vs n i j = true ↔ wayR (psV vs) n (reL l l.length (l.length - 1)) 0 i j := by
 unfold tableR
 rw [reach_tells _ n _ _ i j hi hj]
 refine way_tree l _ vs (psV vs) n l.length (l.length - 1) 0 (fun q y hy p _ => ?_) i j
 rw [tests_whole h] at hy
 rw [num_place (List.Nodup.sublist (by unfold placesR; rw [if_pos h]; exact List.filter_sublist) List.nodup_range) hy, Nat.zero_add]
 rfl
end Go.Proofs.YtdbgaccnejffpaaGreat.Paths

namespace Go.Proofs.YtdbgaccnejffpaaGreat.Paths
open Go.RowKit Go.Proofs.YtdbgaccnejffpaaGreat.Ints Go.Proofs.YtdbgaccnejffpaaGreat.Mem Go.Proofs.YtdbgaccnejffpaaGreat.Src Go.Proofs.YtdbgaccnejffpaaGreat.Tree
theorem infoEd : (Tryz.prog.info? 154).map (fun i => (i.zero, i.size, i.bytes)) = some (some (.agg #[.int .i64 0, .int .i64 0, .int .i64 0]), 3, 24) := by kernel_rfl
def cellsEd (e : Ed) : List Value := [.int .i64 (e.1 : Nat), .int .i64 (e.2.1 : Nat), .int .i64 e.2.2]
def rowEd (l : List Ed) : List Value := l.flatMap cellsEd
theorem cellsEd_one (e : Ed) : ∀ u ∈ cellsEd e, u.oneCell' = true := by
 intro u hu
 simp only [cellsEd, List.mem_cons, List.not_mem_nil, or_false] at hu
 rcases hu with rfl | rfl | rfl <;> rfl
theorem rowEd_snoc (l : List Ed) (e : Ed) : rowEd (l ++ [e]) = rowEd l ++ cellsEd e := by simp [rowEd]
theorem rowEd_at {l : List Ed} {k : Nat} {e : Ed} (h : l[k]? = some e) : (rowEd l)[3 * k]? = some (.int .i64 (e.1 : Nat)) ∧ (rowEd l)[3 * k + 1]? = some (.int .i64 (e.2.1 : Nat)) ∧ (rowEd l)[3 * k + 2]? = some (.int .i64 e.2.2) := by
 induction l generalizing k with
 | nil => cases h
 | cons a l ih =>
  have e1 : rowEd (a :: l) = .int .i64 (a.1 : Nat) :: .int .i64 (a.2.1 : Nat) :: .int .i64 a.2.2 :: rowEd l := rfl
  rw [e1]
  cases k with
  | zero => cases h; exact ⟨rfl, rfl, rfl⟩
  | succ k =>
   have h : l[k]? = some e := h
   have := ih h
   refine ⟨?_, ?_, ?_⟩
   ·rw [show 3 * (k + 1) = 3 * k + 1 + 1 + 1 by omega]; exact this.1
   ·rw [show 3 * (k + 1) + 1 = (3 * k + 1) + 1 + 1 + 1 by omega]; exact this.2.1
   ·rw [show 3 * (k + 1) + 2 = (3 * k + 2) + 1 + 1 + 1 by omega]; exact this.2.2
structure GMem (w : World) (lo gp : Nat) (sv pv : Value) (np nt : Nat) (st sp : List Ed) : Prop where
 blk : Blk w gp [.int .i64 (np : Nat), .int .i64 (nt : Nat), sv, pv]
 hg : lo ≤ gp
 hb : lo ≤ w.heap.size
 sts : w.ownsRow lo 154 3 sv st.length (rowEd st)
 sps : w.ownsRow lo 154 3 pv sp.length (rowEd sp)
 sg : sv.ownBlock ≠ some gp
 pg : pv.ownBlock ≠ some gp
 ne : sv.ownBlock = none ∨ sv.ownBlock ≠ pv.ownBlock
def GMemE (w : World) (lo gp np nt : Nat) (st sp : List Ed) : Prop := ∃ sv pv, GMem w lo gp sv pv np nt st sp
section
variable {w w' w3 : World} {lo gp np nt q cap n : Nat} {sv pv : Value} {st sp : List Ed}
theorem GMem.later (h : GMem w lo gp sv pv np nt st sp) (hb : Below w.heap.size w w') : GMem w' lo gp sv pv np nt st sp :=
 ⟨h.blk.later hb, h.hg, Nat.le_trans h.hb hb.size, Mem.below_row h.sts hb, Mem.below_row h.sps hb, h.sg, h.pg, h.ne⟩
theorem grown_low {row : Option Nat} (hg : w.grownBy w' row) (hb : lo ≤ w.heap.size) (hr : ∀ b, row = some b → lo ≤ b) : Below lo w w' :=
 ⟨hg.os, hg.tape, hg.output, hg.size, fun i hi => hg.block i (by omega) (fun e => by have := hr i e.symm; omega)⟩
theorem GMem.push_st (h : GMem w lo gp sv pv np nt st sp) (e : Ed) (hn : n = st.length + 1) (hown : w3.ownsRow lo 154 3 (.slice (some ⟨q, 0, none⟩) n cap) n (rowEd st ++ cellsEd e)) (hg : w.grownBy w3 sv.ownBlock) (hq : sv.ownBlock = some q ∨ q = w.heap.size) :
  GMem (w3.setCell ⟨gp, 2, none⟩ (.slice (some ⟨q, 0, none⟩) n cap)) lo gp (.slice (some ⟨q, 0, none⟩) n cap) pv np nt (st ++ [e]) sp ∧ Below lo w (w3.setCell ⟨gp, 2, none⟩ (.slice (some ⟨q, 0, none⟩) n cap)) := by
 subst hn
 have hqg : q ≠ gp := by
  rcases hq with hq | hq
  ·exact fun e => h.sg (by rw [hq, e])
  ·have := h.blk.1; omega
 have hgs := grown_cell w3 ⟨gp, 2, none⟩ (.slice (some ⟨q, 0, none⟩) (st.length + 1) cap)
 have hb3 := grown_low hg h.hb (fun b hb => (h.sts.lt b hb).1)
 have hb4 := hb3.setCell (p := ⟨gp, 2, none⟩) h.hg (.slice (some ⟨q, 0, none⟩) (st.length + 1) cap)
 refine ⟨⟨(h.blk.grown hg (fun e => h.sg e.symm)).set 2 _ (by simp), h.hg, Nat.le_trans h.hb hb4.size, ?_, (h.sps.kept hg ?_).kept hgs (.inr h.pg), fun e => hqg (by injection e), h.pg, .inr fun e => ?_⟩, hb4⟩
 ·rw [rowEd_snoc, List.length_append]
  exact hown.kept hgs (.inr fun e => hqg (by injection e))
 ·rcases h.ne with e | e
  ·rw [e]
   cases hp : pv.ownBlock with
   | none => exact .inl rfl
   | some b => exact .inr (fun e => by cases e)
  ·exact .inr (fun e2 => e e2.symm)
 ·have e : some q = pv.ownBlock := e
  rcases hq with hq | hq
  ·rcases h.ne with e2 | e2
   ·rw [e2] at hq; cases hq
   ·exact e2 (hq.trans e)
  ·have := (h.sps.lt q e.symm).2; omega
theorem GMem.push_sp (h : GMem w lo gp sv pv np nt st sp) (e : Ed) (hn : n = sp.length + 1) (hown : w3.ownsRow lo 154 3 (.slice (some ⟨q, 0, none⟩) n cap) n (rowEd sp ++ cellsEd e)) (hg : w.grownBy w3 pv.ownBlock) (hq : pv.ownBlock = some q ∨ q = w.heap.size) :
  GMem (w3.setCell ⟨gp, 3, none⟩ (.slice (some ⟨q, 0, none⟩) n cap)) lo gp sv (.slice (some ⟨q, 0, none⟩) n cap) np nt st (sp ++ [e]) ∧ Below lo w (w3.setCell ⟨gp, 3, none⟩ (.slice (some ⟨q, 0, none⟩) n cap)) := by
 subst hn
 have hqg : q ≠ gp := by
  rcases hq with hq | hq
  ·exact fun e => h.pg (by rw [hq, e])
  ·have := h.blk.1; omega
 have hgs := grown_cell w3 ⟨gp, 3, none⟩ (.slice (some ⟨q, 0, none⟩) (sp.length + 1) cap)
 have hb3 := grown_low hg h.hb (fun b hb => (h.sps.lt b hb).1)
 have hb4 := hb3.setCell (p := ⟨gp, 3, none⟩) h.hg (.slice (some ⟨q, 0, none⟩) (sp.length + 1) cap)
 refine ⟨⟨(h.blk.grown hg (fun e => h.pg e.symm)).set 3 _ (by simp), h.hg, Nat.le_trans h.hb hb4.size, (h.sts.kept hg h.ne).kept hgs (.inr h.sg), ?_, h.sg, fun e => hqg (by injection e), ?_⟩, hb4⟩
 ·rw [rowEd_snoc, List.length_append]
  exact hown.kept hgs (.inr fun e => hqg (by injection e))
 ·rcases h.ne with e | e
  ·exact .inl e
  ·refine .inr fun e3 => ?_
   have e3 : sv.ownBlock = some q := e3
   rcases hq with hq | hq
   ·exact e (e3.trans hq.symm)
   ·have := (h.sts.lt q e3).2; omega
theorem GMem.count (h : GMem w lo gp sv pv np nt st sp) (m : Nat) : GMem (w.setCell ⟨gp, 0, none⟩ (.int .i64 (m : Nat))) lo gp sv pv m nt st sp ∧ Below lo w (w.setCell ⟨gp, 0, none⟩ (.int .i64 (m : Nat))) := by
 have hgs := grown_cell w ⟨gp, 0, none⟩ (.int .i64 (m : Nat))
 exact ⟨⟨h.blk.set 0 _ (by simp), h.hg, Nat.le_trans h.hb hgs.size, h.sts.kept hgs (.inr h.sg), h.sps.kept hgs (.inr h.pg), h.sg, h.pg, h.ne⟩, (Below.refl _ _).setCell (p := ⟨gp, 0, none⟩) h.hg _⟩
theorem GMem.test (h : GMem w lo gp sv pv np nt st sp) (m : Nat) : GMem (w.setCell ⟨gp, 1, none⟩ (.int .i64 (m : Nat))) lo gp sv pv np m st sp ∧ Below lo w (w.setCell ⟨gp, 1, none⟩ (.int .i64 (m : Nat))) := by
 have hgs := grown_cell w ⟨gp, 1, none⟩ (.int .i64 (m : Nat))
 exact ⟨⟨h.blk.set 1 _ (by simp), h.hg, Nat.le_trans h.hb hgs.size, h.sts.kept hgs (.inr h.sg), h.sps.kept hgs (.inr h.pg), h.sg, h.pg, h.ne⟩, (Below.refl _ _).setCell (p := ⟨gp, 1, none⟩) h.hg _⟩
end
set_option maxRecDepth 100000 in
set_option maxHeartbeats 2000000 in
theorem landPlace (lo gp np nt : Nat) (st sp : List Ed) (w : World) (h : GMemE w lo gp np nt st sp) (hnp : np ≤ 1000000000) :
  Calls Tryz.prog 144 #[.pointer (some ⟨gp, 0, none⟩)] w fun e w' => e = .returned (.int .i64 (np : Nat)) ∧ GMemE w' lo gp (np + 1) nt st sp ∧ Below lo w w' := by
 obtain ⟨sv, pv, h⟩ := h
 obtain ⟨m, hm⟩ : ∃ m, np + 1 = m := ⟨_, rfl⟩
 have HM := Lib.hid (h.count m)
 have c0 := h.blk.cell 0 rfl
 have g0 := h.blk.fz 0 rfl
 have e1 : ((np : Nat) : Int) + 1 = ((m : Nat) : Int) := by omega
 have e2 : ((m : Nat) : Int) - 1 = ((np : Nat) : Int) := by omega
 have hnp' : ((np : Nat) : Int) ≤ 1000000000 := by omega
 have hm' : ((m : Nat) : Int) ≤ 1000000001 := by omega
 have hm0 : (1 : Int) ≤ ((m : Nat) : Int) := by omega
 have d0 := HM.out.1.blk.cell 0 rfl
 have HE := Lib.hid hm
 clear h hm
 go_enter Tryz.func144, Tryz.ntmps144
 go_wp2_with fail
 go_ret
 rw [HE.out]
 exact ⟨rfl, ⟨_, _, HM.out.1⟩, HM.out.2⟩
end Go.Proofs.YtdbgaccnejffpaaGreat.Paths
