/-
  The text of a node over formulas, how deep it is. By an AI agent.
-/
import Derived.Test.YthcbgneoonekkaaDoorGShowNest25
import Derived.Test.YthcbgneoonekkaaDoorGShowNest34
namespace Go.Proofs.YthcbgneoonekkaaDoor.Show
open Go.Proofs.YthcbgneoonekkaaDoor.Tree

theorem one_at {F : List Nd} {i t : Nat} {n : Nd} (hn : F[i]? = some n) (hk : n.kids = [(t : Int)]) (ht : t < i) : txt F i = nodeT n [kidX F n 0 t] ∧ nst F i = kidD F n 0 t + (if deeper n.kind = true then 1 else 0) := by
  have hi := (List.getElem?_eq_some_iff.1 hn).1
  constructor
  · rw [txt_node hn]
    unfold kidsT
    rw [hk]
    show nodeT n [kidT (textsTo F i) F n 0 (t : Int)] = _
    rw [kidT_at ht (by omega)]
  · rw [nst_node hn, hk]
    show nodeN n (max (kidN (nestsTo F i) F n 0 (t : Int)) 0) = _
    rw [kidN_at ht (by omega), Nat.max_zero]
    rfl
theorem two_at {F : List Nd} {i t u : Nat} {n : Nd} (hn : F[i]? = some n) (hk : n.kids = [(t : Int), (u : Int)]) (ht : t < i) (hu : u < i) : txt F i = nodeT n [kidX F n 0 t, kidX F n 1 u] ∧ nst F i = max (kidD F n 0 t) (kidD F n 1 u) + (if deeper n.kind = true then 1 else 0) := by
  have hi := (List.getElem?_eq_some_iff.1 hn).1
  constructor
  · rw [txt_node hn]
    unfold kidsT
    rw [hk]
    show nodeT n [kidT (textsTo F i) F n 0 (t : Int), kidT (textsTo F i) F n 1 (u : Int)] = _
    rw [kidT_at ht (by omega), kidT_at hu (by omega)]
  · rw [nst_node hn, hk]
    show nodeN n (max (kidN (nestsTo F i) F n 0 (t : Int)) (max (kidN (nestsTo F i) F n 1 (u : Int)) 0)) = _
    rw [kidN_at ht (by omega), kidN_at hu (by omega), Nat.max_zero]
    rfl
/-- A list that lies in another, its kids' numbers moved: its texts are as they were. -/
theorem copy_all {F g : List Nd} {off : Nat} (h : mayL g = true) (hF : ∀ (i : Nat) (n : Nd), g[i]? = some n → F[off + i]? = some (shiftNd (off : Int) n)) : ∀ (i : Nat), i < g.length → txt F (off + i) = txt g i ∧ nst F (off + i) = nst g i ∧ kindAt F ((off + i : Nat) : Int) = kindAt g (i : Int) := by
  intro i
  induction i using Nat.strongRecOn with
  | ind i ih =>
    intro hi
    obtain ⟨n, hn⟩ : ∃ n, g[i]? = some n := ⟨_, List.getElem?_eq_getElem hi⟩
    have hn' := hF i n hn
    have hkd : kindAt F ((off + i : Nat) : Int) = kindAt g (i : Int) := by
      unfold kindAt
      rw [Int.toNat_natCast, Int.toNat_natCast, hn', hn]
      rfl
    have hx : ∀ w t, t < i → kidX F (shiftNd (off : Int) n) w (off + t) = kidX g n w t ∧ kidD F (shiftNd (off : Int) n) w (off + t) = kidD g n w t := fun w t ht => by
      obtain ⟨h1, h2, h3⟩ := ih t ht (by omega)
      unfold kidX kidD
      rw [h1, h2, h3]
      exact ⟨rfl, rfl⟩
    obtain ⟨-, -, hk⟩ := kids_at h hn
    rcases hk with ⟨e, -, -⟩ | ⟨t, e, -, -, -, hti⟩ | ⟨t, u, e, -, -, hle, -, htu, hui⟩
    · refine ⟨?_, ?_, hkd⟩
      · rw [txt_node hn', txt_node hn]
        unfold kidsT shiftNd
        rw [e]
        rfl
      · rw [nst_node hn', nst_node hn]
        unfold shiftNd
        rw [e]
        rfl
    · have ek : (shiftNd (off : Int) n).kids = [((off + t : Nat) : Int)] := by
        unfold shiftNd
        rw [e]
        show [(t : Int) + (off : Int)] = _
        rw [Int.natCast_add, Int.add_comm]
      obtain ⟨a1, a2⟩ := one_at hn' ek (by omega)
      obtain ⟨b1, b2⟩ := one_at hn e (by omega)
      obtain ⟨x1, x2⟩ := hx 0 t (by omega)
      refine ⟨?_, ?_, hkd⟩
      · rw [a1, b1, x1]; rfl
      · rw [a2, b2, x2]; rfl
    · have ek : (shiftNd (off : Int) n).kids = [((off + t : Nat) : Int), ((off + u : Nat) : Int)] := by
        unfold shiftNd
        rw [e]
        show [(t : Int) + (off : Int), (u : Int) + (off : Int)] = _
        rw [Int.natCast_add, Int.add_comm, Int.natCast_add, Int.add_comm (u : Int)]
      obtain ⟨a1, a2⟩ := two_at hn' ek (by omega) (by omega)
      obtain ⟨b1, b2⟩ := two_at hn e (by omega) (by omega)
      obtain ⟨x1, x2⟩ := hx 0 t (by omega)
      obtain ⟨y1, y2⟩ := hx 1 u (by omega)
      refine ⟨?_, ?_, hkd⟩
      · rw [a1, b1, x1, y1]; rfl
      · rw [a2, b2, x2, y2]; rfl
theorem shift_zero (n : Nd) : shiftNd ((0 : Nat) : Int) n = n := by
  unfold shiftNd
  have e : n.kids.map (· + ((0 : Nat) : Int)) = n.kids := by
    rw [List.map_congr_left (g := id) (fun x _ => by show x + 0 = x; omega), List.map_id]
  rw [e]
/-- What a kid of this kind is, with its text. -/
def wrapT (k : Int) (w : Nat) (f : List Nd) : List UInt8 := if bare k w (lastKind f) = true then textL f else [40] ++ textL f ++ [41]
def wrapD (k : Int) (w : Nat) (f : List Nd) : Nat := nestL f + if bare k w (lastKind f) = true then 0 else 1
theorem over1_text {n : Nd} {f : List Nd} (hc : kidc n.kind = 1) (hf : fieldsB n = true) (ha : mayL f = true) (hk : regKind (lastKind f) = takesReg n.kind) : textL (overL n f []) = nodeT n [wrapT n.kind 0 f] ∧ nestL (overL n f []) = wrapD n.kind 0 f + (if deeper n.kind = true then 1 else 0) := by
  have hm := may_over1 hc hf ha hk
  have h0 := may_ne ha
  have e : overL n f [] = f ++ [{ n with kids := [((f.length - 1 : Nat) : Int)] }] := by
    unfold overL
    have hne : f ≠ [] := fun h => by rw [h] at h0; exact absurd h0 (by decide)
    simp [hne]
    omega
  have hlen : (overL n f []).length = f.length + 1 := by rw [over_len]; rfl
  have hN : nestL (overL n f []) = nst (overL n f []) f.length := by unfold nestL; rw [if_pos hm, hlen]; rfl
  have hNf : nestL f = nst f (f.length - 1) := if_pos ha
  rw [textL_eq hm, hN, hlen, show f.length + 1 - 1 = f.length by omega]
  have hroot : (overL n f [])[f.length]? = some { n with kids := [((f.length - 1 : Nat) : Int)] } := by
    rw [e, List.getElem?_append_right (Nat.le_refl _), Nat.sub_self]; rfl
  have hcp := copy_all (F := overL n f []) (g := f) (off := 0) ha (fun i x hx => by
    rw [Nat.zero_add, shift_zero, e, List.getElem?_append_left (List.getElem?_eq_some_iff.1 hx).1]; exact hx) (f.length - 1) (by omega)
  rw [Nat.zero_add] at hcp
  obtain ⟨c1, c2, c3⟩ := hcp
  obtain ⟨a1, a2⟩ := one_at hroot rfl (by omega)
  rw [lastKind_at h0] at c3
  rw [a1, a2]
  unfold kidX kidD wrapT wrapD
  rw [c1, c2, c3, textL_eq ha, hNf]
  exact ⟨rfl, rfl⟩
theorem over2_text {n : Nd} {f g : List Nd} (hc : kidc n.kind = 2) (hf : fieldsB n = true) (ha : mayL f = true) (hb : mayL g = true) (hk : regKind (lastKind f) = takesReg n.kind) (hk2 : regKind (lastKind g) = takesReg n.kind) : textL (overL n f g) = nodeT n [wrapT n.kind 0 f, wrapT n.kind 1 g] ∧ nestL (overL n f g) = max (wrapD n.kind 0 f) (wrapD n.kind 1 g) + (if deeper n.kind = true then 1 else 0) := by
  have hm := may_over2 hc hf ha hb hk hk2
  have h0 := may_ne ha
  have h1 := may_ne hb
  have e := over2_eq (n := n) h0 h1
  have hlen : (overL n f g).length = f.length + g.length + 1 := over_len n f g
  have hN : nestL (overL n f g) = nst (overL n f g) (f.length + g.length) := by unfold nestL; rw [if_pos hm, hlen]; rfl
  have hNf : nestL f = nst f (f.length - 1) := if_pos ha
  have hNg : nestL g = nst g (g.length - 1) := if_pos hb
  rw [textL_eq hm, hN, hlen, show f.length + g.length + 1 - 1 = f.length + g.length by omega]
  have hroot : (overL n f g)[f.length + g.length]? = some { n with kids := [((f.length - 1 : Nat) : Int), ((g.length - 1 + f.length : Nat) : Int)] } := by
    rw [e, List.getElem?_append_right (by rw [List.length_append, List.length_map]; exact Nat.le_refl _), List.length_append, List.length_map, Nat.sub_self]; rfl
  have hcp := copy_all (F := overL n f g) (g := f) (off := 0) ha (fun i x hx => by
    have hi := (List.getElem?_eq_some_iff.1 hx).1
    rw [Nat.zero_add, shift_zero, e, List.append_assoc, List.getElem?_append_left hi]; exact hx) (f.length - 1) (by omega)
  rw [Nat.zero_add] at hcp
  obtain ⟨c1, c2, c3⟩ := hcp
  obtain ⟨d1, d2, d3⟩ := copy_all (F := overL n f g) (g := g) (off := f.length) hb (fun i x hx => by
    have hi := (List.getElem?_eq_some_iff.1 hx).1
    rw [e, List.getElem?_append_left (by rw [List.length_append, List.length_map]; omega), List.getElem?_append_right (Nat.le_add_right _ _), Nat.add_sub_cancel_left, List.getElem?_map, hx]; rfl) (g.length - 1) (by omega)
  have ecast : ((g.length - 1 + f.length : Nat) : Int) = ((f.length + (g.length - 1) : Nat) : Int) := by omega
  rw [ecast] at hroot
  obtain ⟨a1, a2⟩ := two_at hroot rfl (by omega) (by omega)
  rw [lastKind_at h0] at c3
  rw [lastKind_at h1] at d3
  rw [a1, a2]
  unfold kidX kidD wrapT wrapD
  rw [c1, c2, c3, d1, d2, d3, textL_eq ha, hNf, textL_eq hb, hNg]
  exact ⟨rfl, rfl⟩
end Go.Proofs.YthcbgneoonekkaaDoor.Show
