/-
  A formula with the past's signs for the future's, or the other way round; a formula of time told backwards (stage 15). By an AI agent.
-/
import Derived.Test.YtdbgaccnejffpaaGSatShift13
import Derived.Test.YtdbgaccnejffpaaGSatShift20
namespace Go.Proofs.Ytdbgaccnejffpaa.Sat
open Go.RowKit Go.Proofs.Ytdbgaccnejffpaa.Ints Go.Proofs.Ytdbgaccnejffpaa.Tree Go.Proofs.Ytdbgaccnejffpaa.Paths
def reKind (g : Int → Int) (n : Nd) : Nd := { n with kind := g n.kind }
section
end
def klass (k : Int) : Int := if 8 ≤ k ∧ k ≤ 13 then 8 else if k = 14 ∨ k = 15 then 14 else if k = 16 ∨ k = 17 then 16 else k
theorem klass_ways (k : Int) : (8 ≤ k ∧ k ≤ 13 ∧ klass k = 8) ∨ ((k = 14 ∨ k = 15) ∧ klass k = 14) ∨ ((k = 16 ∨ k = 17) ∧ klass k = 16) ∨ ((k < 8 ∨ 17 < k) ∧ klass k = k) := by
 unfold klass
 split
 ·omega
 split
 ·omega
 split
 ·omega
 ·omega
theorem klass_same {k k' : Int} (h : klass k = klass k') : arity k = arity k' ∧ (k = 3 ↔ k' = 3) ∧ timed k = timed k' ∧ (k ∈ regs ↔ k' ∈ regs) ∧ formKind k = formKind k' ∧ kidc k = kidc k' ∧ takesReg k = takesReg k' ∧ regKind k = regKind k' := by
 have hr : k ∈ regs ↔ k' ∈ regs := by
  simp only [regs, List.mem_cons, List.not_mem_nil, or_false]
  rcases klass_ways k with h1 | h1 | h1 | h1 <;> rcases klass_ways k' with h2 | h2 | h2 | h2 <;> omega
 have h0 : k ∈ none0 ↔ k' ∈ none0 := by
  simp only [none0, List.mem_cons, List.not_mem_nil, or_false]
  rcases klass_ways k with h1 | h1 | h1 | h1 <;> rcases klass_ways k' with h2 | h2 | h2 | h2 <;> omega
 have ht : k ∈ twos ↔ k' ∈ twos := by
  simp only [twos, List.mem_cons, List.not_mem_nil, or_false]
  rcases klass_ways k with h1 | h1 | h1 | h1 <;> rcases klass_ways k' with h2 | h2 | h2 | h2 <;> omega
 have ho : (k < 1 ∨ 22 < k) ↔ (k' < 1 ∨ 22 < k') := by
  rcases klass_ways k with h1 | h1 | h1 | h1 <;> rcases klass_ways k' with h2 | h2 | h2 | h2 <;> omega
 refine ⟨?_, ?_, ?_, hr, ?_, ?_, ?_, ?_⟩
 ·unfold arity
  rw [if_iff h0 rfl (if_iff ht rfl (if_iff ho rfl rfl))]
 ·rcases klass_ways k with h1 | h1 | h1 | h1 <;> rcases klass_ways k' with h2 | h2 | h2 | h2 <;> omega
 ·unfold timed
  exact decide_eq_decide.2 (by rcases klass_ways k with h1 | h1 | h1 | h1 <;> rcases klass_ways k' with h2 | h2 | h2 | h2 <;> omega)
 ·unfold formKind
  exact decide_eq_decide.2 (by rcases klass_ways k with h1 | h1 | h1 | h1 <;> rcases klass_ways k' with h2 | h2 | h2 | h2 <;> omega)
 ·unfold kidc
  rw [if_iff h0 rfl (if_iff ht rfl rfl)]
 ·unfold takesReg
  exact decide_eq_decide.2 hr
 ·unfold regKind
  exact decide_eq_decide.2 (by rcases klass_ways k with h1 | h1 | h1 | h1 <;> rcases klass_ways k' with h2 | h2 | h2 | h2 <;> omega)
theorem turn_klass (k : Int) : klass (turnK k) = klass k := by
 rcases klass_ways k with h1 | h1 | h1 | h1 <;> rcases klass_ways (turnK k) with h2 | h2 | h2 | h2 <;> rcases turnK_ways k with h | h | h | h | h | h | h | h | h | h | h <;> omega
def turnL (l : List Nd) : Nat → Nat → List Nd
 | 0, _ => []
 | f + 1, i =>
  match l[i]? with
  | none => []
  | some n =>
   if kidc n.kind = 0 then overL (reKind turnK n) [] []
   else if kidc n.kind = 1 then overL (reKind turnK n) (turnL l f (kidN l i 0)) []
   else if n.kind = 21 then overL (reKind turnK n) (turnL l f (kidN l i 1)) (turnL l f (kidN l i 0))
   else overL (reKind turnK n) (turnL l f (kidN l i 0)) (turnL l f (kidN l i 1))
def turnI (l : List Nd) (i : Nat) : List Nd := turnL l (i + 1) i
theorem turnL_fuel {l : List Nd} (h : mayL l = true) : ∀ i, i < l.length → ∀ f f', i < f → i < f' → turnL l f i = turnL l f' i := by
 intro i
 induction i using Nat.strongRecOn with
 | ind i ih =>
  intro hi f f' hf hf'
  obtain ⟨f, rfl⟩ : ∃ g, f = g + 1 := ⟨f - 1, by omega⟩
  obtain ⟨f', rfl⟩ : ∃ g, f' = g + 1 := ⟨f' - 1, by omega⟩
  obtain ⟨n, hn, hk⟩ := kind_some hi
  unfold turnL
  rw [hn]
  show (if kidc n.kind = 0 then _ else _) = (if kidc n.kind = 0 then _ else _)
  split
  ·rfl
  split
  ·next e =>
   have a1 := kidN_one h hi (by rw [hk]; exact e)
   rw [ih _ a1 (by omega) f f' (by omega) (by omega)]
  ·next e0 e1 =>
   obtain ⟨a1, a2⟩ := kidN_two h hi (by rw [hk]; rcases Paths.kidc_ways n.kind with e | e | e <;> omega)
   rw [ih _ a1 (by omega) f f' (by omega) (by omega), ih _ a2 (by omega) f f' (by omega) (by omega)]
theorem turn_fields {n : Nd} (h : fieldsB n = true) : fieldsB (reKind turnK n) = true := by
 unfold fieldsB at h ⊢
 obtain ⟨-, k3, kt, -, kf, -, -, kr⟩ := klass_same (turn_klass n.kind)
 have e1 : formKind (reKind turnK n).kind = formKind n.kind := kf
 have e2 : regKind (reKind turnK n).kind = regKind n.kind := kr
 have e3 : nameOkB (reKind turnK n) = nameOkB n := by
  unfold nameOkB
  exact if_iff k3 rfl rfl
 have e4 : okSpan (reKind turnK n) = okSpan n := by
  unfold okSpan
  show (if timed (turnK n.kind) then _ else _) = _
  rw [kt]
  rfl
 rw [e1, e2, e3, e4]
 exact h
theorem node_fields {l : List Nd} (h : mayL l = true) {i : Nat} {n : Nd} (hn : l[i]? = some n) : fieldsB n = true := by
 obtain ⟨st, -, -, -, h4, -⟩ := node_over h hn
 exact h4
theorem fo_node {l : List Nd} {i : Nat} {n : Nd} (hn : l[i]? = some n) : kindN l i = n.kind ∧ nameN l i = n.name.data.toList ∧ loN l i = n.lo ∧ hiN l i = n.hi := by
 refine ⟨kind_of hn, ?_, ?_, ?_⟩
 ·unfold nameN; rw [hn]; rfl
 ·unfold loN; rw [hn]; rfl
 ·unfold hiN; rw [hn]; rfl
theorem turnI_zero {l : List Nd} {i : Nat} {n : Nd} (hn : l[i]? = some n) (hk : kidc n.kind = 0) : turnI l i = overL (reKind turnK n) [] [] := by
 unfold turnI turnL
 rw [hn]
 show (if kidc n.kind = 0 then _ else _) = _
 rw [if_pos hk]
theorem turnI_one {l : List Nd} (h : mayL l = true) {i : Nat} {n : Nd} (hn : l[i]? = some n) (hk : kidc n.kind = 1) : turnI l i = overL (reKind turnK n) (turnI l (kidN l i 0)) [] := by
 have hi := (List.getElem?_eq_some_iff.1 hn).1
 have a1 := kidN_one h hi (by rw [kind_of hn]; exact hk)
 show turnL l (i + 1) i = _
 unfold turnL
 rw [hn]
 show (if kidc n.kind = 0 then _ else _) = _
 rw [if_neg (by omega), if_pos hk, turnL_fuel h _ (by omega) i (kidN l i 0 + 1) a1 (by omega)]
 rfl
theorem turnI_two {l : List Nd} (h : mayL l = true) {i : Nat} {n : Nd} (hn : l[i]? = some n) (hk : kidc n.kind = 2) : turnI l i = if n.kind = 21 then overL (reKind turnK n) (turnI l (kidN l i 1)) (turnI l (kidN l i 0)) else overL (reKind turnK n) (turnI l (kidN l i 0)) (turnI l (kidN l i 1)) := by
 have hi := (List.getElem?_eq_some_iff.1 hn).1
 obtain ⟨a1, a2⟩ := kidN_two h hi (by rw [kind_of hn]; exact hk)
 show turnL l (i + 1) i = _
 unfold turnL
 rw [hn]
 show (if kidc n.kind = 0 then _ else _) = _
 rw [if_neg (by omega), if_neg (by omega), turnL_fuel h _ (by omega) i (kidN l i 0 + 1) a1 (by omega), turnL_fuel h _ (by omega) i (kidN l i 1 + 1) a2 (by omega)]
 rfl
theorem turn_ok {l : List Nd} (h : mayL l = true) : ∀ i, i < l.length → mayL (turnI l i) = true ∧ regKind (lastKind (turnI l i)) = regKind (kindN l i) ∧ (turnI l i).length = i + 1 - startL l i ∧ foOf (turnI l i) = turnF (foI l i) := by
 intro i
 induction i using Nat.strongRecOn with
 | ind i ih =>
  intro hi
  obtain ⟨n, hn, hkn⟩ := kind_some hi
  obtain ⟨f1, f2, f3, f4⟩ := fo_node hn
  have hf := turn_fields (node_fields h hn)
  obtain ⟨-, -, -, -, -, kc, kt, kr⟩ := klass_same (turn_klass n.kind)
  rcases Paths.kidc_ways n.kind with e | e | e
  ·rw [turnI_zero hn e, foI_zero (by rw [f1]; exact e), node_leaf h hi (by rw [f1]; exact e), f1, f2]
   refine ⟨may_over0 (by exact kc.trans e) hf, by rw [last_over]; exact kr, by rw [Paths.over_len]; simp, ?_⟩
   rw [foOf_over0 _ (by exact kc.trans e)]
   have : turnK n.kind = n.kind := by
    have h0 : n.kind = 1 ∨ n.kind = 2 ∨ n.kind = 3 ∨ n.kind = 18 := by
     unfold kidc at e
     split at e
     ·next h1 => simpa only [none0, List.mem_cons, List.not_mem_nil, or_false] using h1
     ·split at e <;> omega
    rcases turnK_ways n.kind with g | g | g | g | g | g | g | g | g | g | g <;> omega
   show Fo.z (turnK n.kind) _ = Fo.z n.kind _
   rw [this]
   rfl
  ·have hk1 : kidc (kindN l i) = 1 := by rw [f1]; exact e
   obtain ⟨n', hn', -, h3, h4, h5, h6⟩ := node_one h hi hk1
   have a1 := kidN_one h hi hk1
   obtain ⟨i1, i2, i3, i4⟩ := ih _ a1 (by omega)
   rw [turnI_one h hn e, foI_one h hi hk1, f1, f3, f4]
   have hreg : regKind (lastKind (turnI l (kidN l i 0))) = takesReg (reKind turnK n).kind := by
    rw [i2, h5, h6, hkn]
    exact kt.symm
   refine ⟨may_over1 (by exact kc.trans e) hf i1 hreg, by rw [last_over]; exact kr, ?_, ?_⟩
   ·rw [Paths.over_len, i3, h5, h4]
    have := start_within_self h (show i - 1 < l.length by omega)
    simp only [List.length_nil]
    omega
   ·rw [foOf_one i1 (by exact kc.trans e), i4]
    rfl
  ·have hk2 : kidc (kindN l i) = 2 := by rw [f1]; exact e
   obtain ⟨n', t, hn', -, h3, h4, h5, h6, h7, h8, h9, h10⟩ := node_two h hi hk2
   obtain ⟨a1, a2⟩ := kidN_two h hi hk2
   obtain ⟨i1, i2, i3, i4⟩ := ih _ a1 (by omega)
   obtain ⟨j1, j2, j3, j4⟩ := ih _ a2 (by omega)
   have hs := start_within_self h (show i - 1 < l.length by omega)
   rw [turnI_two h hn e, foI_two h hi hk2, f1, f3, f4]
   have r1 : regKind (lastKind (turnI l (kidN l i 0))) = takesReg (reKind turnK n).kind := by
    rw [i2, h6, h9, hkn]
    exact kt.symm
   have r2 : regKind (lastKind (turnI l (kidN l i 1))) = takesReg (reKind turnK n).kind := by
    rw [j2, h7, h10, hkn]
    exact kt.symm
   split
   ·next e21 =>
    refine ⟨may_over2 (by exact kc.trans e) hf j1 i1 r2 r1, by rw [last_over]; exact kr, ?_, ?_⟩
    ·rw [Paths.over_len, i3, j3, h6, h7, h4, h5]
     omega
    ·rw [foOf_two j1 i1 (by exact kc.trans e), i4, j4]
     show _ = (if n.kind = 21 then Fo.t _ _ _ _ _ else _)
     rw [if_pos e21]
     show Fo.t (turnK n.kind) _ _ _ _ = _
     rw [e21]
     rfl
   ·next e21 =>
    refine ⟨may_over2 (by exact kc.trans e) hf i1 j1 r1 r2, by rw [last_over]; exact kr, ?_, ?_⟩
    ·rw [Paths.over_len, i3, j3, h6, h7, h4, h5]
     omega
    ·rw [foOf_two i1 j1 (by exact kc.trans e), i4, j4]
     show _ = (if n.kind = 21 then Fo.t _ _ _ _ _ else _)
     rw [if_neg e21]
     rfl
end Go.Proofs.Ytdbgaccnejffpaa.Sat
