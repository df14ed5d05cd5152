/-
  What pieces that are still to come make; how many rounds they take. By an AI agent.
-/
import Derived.Test.YthcbgneoonekkaaDoorGShowNest18
namespace Go.Proofs.YthcbgneoonekkaaDoor.Show
open Go.Proofs.YthcbgneoonekkaaDoor.Tree

/-- What a piece makes: its own text, and then its node's. -/
def outX (l : List Nd) (p : Pc) : List UInt8 := p.1 ++ (if p.2 = -1 then [] else txt l p.2.toNat)
def outs (l : List Nd) (ps : List Pc) : List UInt8 := (ps.map (outX l)).flatten
/-- What is still to come, the next piece last. -/
def outAll (l : List Nd) (todo : List Pc) : List UInt8 := outs l todo.reverse
theorem outs_append (l : List Nd) (a b : List Pc) : outs l (a ++ b) = outs l a ++ outs l b := by unfold outs; rw [List.map_append, List.flatten_append]
theorem outAll_push (l : List Nd) (ts ps : List Pc) : outAll l (ts ++ ps.reverse) = outs l ps ++ outAll l ts := by
  unfold outAll
  rw [List.reverse_append, List.reverse_reverse, outs_append]
theorem outAll_pop (l : List Nd) (ts : List Pc) (p : Pc) : outAll l (ts ++ [p]) = outX l p ++ outAll l ts := by
  unfold outAll
  rw [List.reverse_append, outs_append]
  unfold outs
  simp
theorem outX_none (l : List Nd) (s : List UInt8) : outX l (s, -1) = s := by unfold outX; rw [if_pos rfl, List.append_nil]
theorem outX_node (l : List Nd) (s : List UInt8) (t : Nat) : outX l (s, (t : Int)) = s ++ txt l t := by
  unfold outX
  rw [if_neg (by show ¬ (t : Int) = -1; omega)]
  rfl
theorem word_words (n : Nd) (h : 8 ≤ n.kind ∧ n.kind ≤ 17) : word n = wordW n := by
  have ht : timed n.kind = true := by unfold timed; rw [decide_eq_true_eq]; exact h
  unfold word wordW spanW
  rw [if_pos ht, if_pos ht]
  have hw : n.kind = 8 ∨ n.kind = 9 ∨ n.kind = 10 ∨ n.kind = 11 ∨ n.kind = 12 ∨ n.kind = 13 ∨ n.kind = 14 ∨ n.kind = 15 ∨ n.kind = 16 ∨ n.kind = 17 := by omega
  rcases hw with e | e | e | e | e | e | e | e | e | e
  all_goals rw [e]; rfl
theorem word_sign (n : Nd) (h : ¬ (8 ≤ n.kind ∧ n.kind ≤ 17)) : spanW n = [] ∧ word n = sign n.kind := by
  have ht : ¬ timed n.kind = true := by unfold timed; rw [decide_eq_true_eq]; exact h
  unfold word spanW
  rw [if_neg ht, if_neg ht]
  exact ⟨rfl, rfl⟩
def partsX (l : List Nd) (n : Nd) : List UInt8 := match n.kids with
  | [] => ownA n ++ ownC n
  | [k] => ownA n ++ kidX l n 0 k.toNat ++ ownC n
  | [k, u] => ownA n ++ kidX l n 0 k.toNat ++ ownB n ++ kidX l n 1 u.toNat ++ ownC n
  | _ => []
theorem kidX_enc {l : List Nd} {n : Nd} {w t : Nat} (hr : 1 ≤ n.kind ∧ n.kind ≤ 22) (h : (kidc n.kind = 1 ∧ w = 0) ∨ (kidc n.kind = 2 ∧ w ≤ 1)) : (if encB l n w (t : Int) = true then [40] else []) ++ txt l t ++ (if encB l n w (t : Int) = true then [41] else []) = kidX l n w t := by
  unfold encB kidX
  rw [enc_bare _ _ _ hr h]
  cases bare n.kind w (kindAt l (t : Int)) <;> simp
theorem outs_parts {l : List Nd} {i : Nat} {n : Nd} (h : mayL l = true) (hn : l[i]? = some n) (hr : 1 ≤ n.kind ∧ n.kind ≤ 22) : outs l (piecesL l n) = partsX l n := by
  obtain ⟨-, -, hk⟩ := kids_at h hn
  unfold piecesL partsX
  rcases hk with ⟨e, hc, -⟩ | ⟨t, e, hc, -, -, -⟩ | ⟨t, u, e, hc, -, -, -, -, -⟩
  · rw [e]
    show outs l [(ownA n ++ ownC n, -1)] = _
    unfold outs
    simp [outX_none]
  · rw [e]
    show outs l [(ownA n ++ [] ++ (if encB l n 0 (t : Int) = true then [40] else []), (t : Int)), ((if encB l n 0 (t : Int) = true then [41] else []) ++ ownC n, -1)] = ownA n ++ kidX l n 0 (t : Int).toNat ++ ownC n
    rw [Int.toNat_natCast, ← kidX_enc hr (Or.inl ⟨hc, rfl⟩)]
    unfold outs
    simp only [List.map_cons, List.map_nil, List.flatten_cons, List.flatten_nil, outX_none, outX_node, List.append_nil, List.append_assoc]
  · rw [e]
    show outs l [(ownA n ++ [] ++ (if encB l n 0 (t : Int) = true then [40] else []), (t : Int)), ((if encB l n 0 (t : Int) = true then [41] else []) ++ ownB n ++ (if encB l n 1 (u : Int) = true then [40] else []), (u : Int)), ((if encB l n 1 (u : Int) = true then [41] else []) ++ ownC n, -1)] = ownA n ++ kidX l n 0 (t : Int).toNat ++ ownB n ++ kidX l n 1 (u : Int).toNat ++ ownC n
    rw [Int.toNat_natCast, Int.toNat_natCast, ← kidX_enc hr (Or.inr ⟨hc, by decide⟩), ← kidX_enc hr (Or.inr ⟨hc, by decide⟩)]
    unfold outs
    simp only [List.map_cons, List.map_nil, List.flatten_cons, List.flatten_nil, outX_none, outX_node, List.append_nil, List.append_assoc]
theorem kind_of0 {k : Int} (_hr : 1 ≤ k ∧ k ≤ 22) (hc : kidc k = 0) : k = 1 ∨ k = 2 ∨ k = 3 ∨ k = 18 := by
  unfold kidc none0 twos at hc
  simp only [List.mem_cons, List.not_mem_nil, or_false] at hc
  repeat' split at hc
  all_goals first | (exfalso; revert hc; decide) | omega
theorem kind_of1 {k : Int} (hr : 1 ≤ k ∧ k ≤ 22) (hc : kidc k = 1) : k = 4 ∨ k = 19 ∨ k = 22 ∨ (k = 16 ∨ k = 17) ∨ (8 ≤ k ∧ k ≤ 13) := by
  unfold kidc none0 twos at hc
  simp only [List.mem_cons, List.not_mem_nil, or_false] at hc
  repeat' split at hc
  all_goals first | (exfalso; revert hc; decide) | omega
theorem kind_of2 {k : Int} (hr : 1 ≤ k ∧ k ≤ 22) (hc : kidc k = 2) : k = 5 ∨ k = 6 ∨ k = 7 ∨ k = 20 ∨ k = 21 ∨ (k = 14 ∨ k = 15) := by
  unfold kidc none0 twos at hc
  simp only [List.mem_cons, List.not_mem_nil, or_false] at hc
  repeat' split at hc
  all_goals first | (exfalso; revert hc; decide) | omega
theorem parts_text {l : List Nd} {i : Nat} {n : Nd} (h : mayL l = true) (hn : l[i]? = some n) (hr : 1 ≤ n.kind ∧ n.kind ≤ 22) : partsX l n = txt l i := by
  have hi := (List.getElem?_eq_some_iff.1 hn).1
  obtain ⟨-, -, hk⟩ := kids_at h hn
  rw [txt_node hn]
  unfold partsX kidsT
  have wsign : ∀ s : List UInt8, ¬ (8 ≤ n.kind ∧ n.kind ≤ 17) → strTab.getD n.kind.toNat [] = s → wordW n = s := fun s h1 h2 => by
    unfold wordW
    rw [(word_sign n h1).1, h2, List.append_nil]
  rcases hk with ⟨e, hc, -⟩ | ⟨t, e, hc, -, hle, hti⟩ | ⟨t, u, e, hc, -, hle, -, htu, hui⟩
  · rw [e]
    show ownA n ++ ownC n = nodeT n []
    have e2 : n.kids.length = 0 := by rw [e]; rfl
    unfold ownA ownC nodeT
    rw [e2]
    rcases kind_of0 hr hc with hk | hk | hk | hk
    · rw [wsign [116, 114, 117, 101] (by omega) (by rw [hk]; rfl), hk]; rfl
    · rw [wsign [102, 97, 108, 115, 101] (by omega) (by rw [hk]; rfl), hk]; rfl
    · rw [if_pos hk, if_neg (by omega), if_neg (by omega), if_neg (by omega), if_neg (by omega), if_pos hk, List.append_nil]
    · rw [wsign [46] (by omega) (by rw [hk]; rfl), hk]; rfl
  · rw [e]
    show ownA n ++ kidX l n 0 (t : Int).toNat ++ ownC n = nodeT n [kidT (textsTo l i) l n 0 (t : Int)]
    rw [kidT_at (by omega) (by omega), Int.toNat_natCast]
    have e2 : n.kids.length = 1 := by rw [e]; rfl
    obtain ⟨K, hK⟩ : ∃ K, kidX l n 0 t = K := ⟨_, rfl⟩
    rw [hK]
    unfold ownA ownC nodeT
    rw [e2]
    rcases kind_of1 hr hc with hk | hk | hk | hk | hk
    · rw [wsign [33] (by omega) (by rw [hk]; rfl), hk]; simp
    · rw [wsign [63] (by omega) (by rw [hk]; rfl), hk]; simp
    · rw [wsign [42] (by omega) (by rw [hk]; rfl), hk]; simp
    · rw [word_words n (by omega)]
      rw [if_neg (by omega), if_neg (by omega), if_pos hk, if_pos hk, if_neg (by omega), if_neg (by omega), if_neg (by omega), if_neg (by omega), if_neg (by omega), if_neg (by omega), if_neg (by omega), if_pos hk]
      simp
    · rw [word_words n (by omega)]
      rw [if_neg (by omega), if_pos hk, if_neg (by omega), if_neg (by omega), if_neg (by omega), if_neg (by omega), if_neg (by omega), if_neg (by omega), if_neg (by omega), if_neg (by omega), if_neg (by omega), if_neg (by omega), if_pos (show [K].length = 1 from rfl)]
      simp
  · rw [e]
    show ownA n ++ kidX l n 0 (t : Int).toNat ++ ownB n ++ kidX l n 1 (u : Int).toNat ++ ownC n = nodeT n [kidT (textsTo l i) l n 0 (t : Int), kidT (textsTo l i) l n 1 (u : Int)]
    rw [kidT_at (by omega) (by omega), kidT_at (by omega) (by omega), Int.toNat_natCast, Int.toNat_natCast]
    have e2 : n.kids.length = 2 := by rw [e]; rfl
    obtain ⟨K, hK⟩ : ∃ K, kidX l n 0 t = K := ⟨_, rfl⟩
    obtain ⟨J, hJ⟩ : ∃ J, kidX l n 1 u = J := ⟨_, rfl⟩
    rw [hK, hJ]
    have hw : word n = wordW n := by
      rcases kind_of2 hr hc with hk | hk | hk | hk | hk | hk
      · rw [(word_sign n (by omega)).2, wsign [38] (by omega) (by rw [hk]; rfl), hk]; rfl
      · rw [(word_sign n (by omega)).2, wsign [124] (by omega) (by rw [hk]; rfl), hk]; rfl
      · rw [(word_sign n (by omega)).2, wsign [45, 62] (by omega) (by rw [hk]; rfl), hk]; rfl
      · rw [(word_sign n (by omega)).2, wsign [43] (by omega) (by rw [hk]; rfl), hk]; rfl
      · rw [(word_sign n (by omega)).2, wsign [59] (by omega) (by rw [hk]; rfl), hk]; rfl
      · exact word_words n (by omega)
    have hne := kind_of2 hr hc
    unfold ownA ownB ownC nodeT
    rw [e2, hw, if_neg (by omega), if_neg (by omega), if_neg (by omega), if_pos (by omega), if_pos (by omega), if_neg (by omega), if_neg (by omega), if_neg (by omega), if_neg (by omega), if_neg (by omega), if_neg (by omega), if_neg (by omega), if_neg (by omega), if_neg (by omega), if_neg (by omega), if_neg (show ¬ [K, J].length = 1 by show ¬ 2 = 1; omega)]
    simp
/-- The pieces of a node's text make its text. -/
theorem outs_text {l : List Nd} {i : Nat} {n : Nd} (h : mayL l = true) (hn : l[i]? = some n) (hr : 1 ≤ n.kind ∧ n.kind ≤ 22) : outs l (piecesL l n) = txt l i := (outs_parts h hn hr).trans (parts_text h hn hr)

/-! ### how many rounds -/
def wt (l : List Nd) (p : Pc) : Nat := if p.2 = -1 then 1 else 1 + 3 * (p.2.toNat + 1 - startL l p.2.toNat)
def wtAll (l : List Nd) (ps : List Pc) : Nat := (ps.map (wt l)).sum
theorem wt_none (l : List Nd) (s : List UInt8) : wt l (s, -1) = 1 := if_pos rfl
theorem wt_node (l : List Nd) (s : List UInt8) (t : Nat) : wt l (s, (t : Int)) = 1 + 3 * (t + 1 - startL l t) := by
  unfold wt
  rw [if_neg (by show ¬ (t : Int) = -1; omega)]
  rfl
theorem wtAll_append (l : List Nd) (a b : List Pc) : wtAll l (a ++ b) = wtAll l a + wtAll l b := by unfold wtAll; rw [List.map_append, List.sum_append]
theorem wtAll_reverse (l : List Nd) (a : List Pc) : wtAll l a.reverse = wtAll l a := by
  unfold wtAll
  rw [List.map_reverse]
  induction (a.map (wt l)) with
  | nil => rfl
  | cons x r ih => rw [List.reverse_cons, List.sum_append, ih, List.sum_cons, List.sum_cons, List.sum_nil]; omega
theorem len_wt (l : List Nd) : ∀ ps : List Pc, ps.length ≤ wtAll l ps
  | [] => Nat.zero_le _
  | p :: r => by
    have := len_wt l r
    have h1 : 1 ≤ wt l p := by unfold wt; split <;> omega
    show r.length + 1 ≤ wt l p + wtAll l r
    omega
def GoodP (n : Nat) (p : Pc) : Prop := p.2 = -1 ∨ ∃ t : Nat, p.2 = (t : Int) ∧ t < n
theorem pieces_good {l : List Nd} {i : Nat} {n : Nd} (h : mayL l = true) (hn : l[i]? = some n) : (∀ p ∈ piecesL l n, GoodP l.length p) ∧ wtAll l (piecesL l n) ≤ 3 * (i + 1 - startL l i) ∧ 1 ≤ (piecesL l n).length ∧ (piecesL l n).length ≤ 3 := by
  have hi := (List.getElem?_eq_some_iff.1 hn).1
  obtain ⟨-, -, hk⟩ := kids_at h hn
  unfold piecesL
  rcases hk with ⟨e, hc, hs⟩ | ⟨t, e, hc, hs, hle, hti⟩ | ⟨t, u, e, hc, hs, hle, hs2, htu, hui⟩
  · rw [e]
    show (∀ p ∈ [(ownA n ++ ownC n, (-1 : Int))], GoodP l.length p) ∧ wtAll l [(ownA n ++ ownC n, -1)] ≤ _ ∧ 1 ≤ 1 ∧ 1 ≤ 3
    refine ⟨fun p hp => ?_, ?_, by decide, by decide⟩
    · rw [List.mem_singleton.1 hp]; exact Or.inl rfl
    · show wt l _ + 0 ≤ _
      rw [wt_none]; omega
  · rw [e]
    obtain ⟨a, b, hab⟩ : ∃ a b, (pfold l n [(t : Int)]).2.2 ++ [((pfold l n [(t : Int)]).2.1 ++ ownC n, (-1 : Int))] = [(a, (t : Int)), (b, -1)] := ⟨_, _, rfl⟩
    rw [hab]
    refine ⟨fun p hp => ?_, ?_, by show 1 ≤ 2; decide, by show 2 ≤ 3; decide⟩
    · rcases List.mem_cons.1 hp with rfl | hp
      · exact Or.inr ⟨t, rfl, by omega⟩
      · rw [List.mem_singleton.1 hp]; exact Or.inl rfl
    · show wt l _ + (wt l _ + 0) ≤ _
      rw [wt_none, wt_node]; omega
  · rw [e]
    obtain ⟨a, b, c, hab⟩ : ∃ a b c, (pfold l n [(t : Int), (u : Int)]).2.2 ++ [((pfold l n [(t : Int), (u : Int)]).2.1 ++ ownC n, (-1 : Int))] = [(a, (t : Int)), (b, (u : Int)), (c, -1)] := ⟨_, _, _, rfl⟩
    rw [hab]
    refine ⟨fun p hp => ?_, ?_, by show 1 ≤ 3; decide, by show 3 ≤ 3; decide⟩
    · rcases List.mem_cons.1 hp with rfl | hp
      · exact Or.inr ⟨t, rfl, by omega⟩
      · rcases List.mem_cons.1 hp with rfl | hp
        · exact Or.inr ⟨u, rfl, by omega⟩
        · rw [List.mem_singleton.1 hp]; exact Or.inl rfl
    · show wt l _ + (wt l _ + (wt l _ + 0)) ≤ _
      rw [wt_none, wt_node, wt_node]; omega
end Go.Proofs.YthcbgneoonekkaaDoor.Show
