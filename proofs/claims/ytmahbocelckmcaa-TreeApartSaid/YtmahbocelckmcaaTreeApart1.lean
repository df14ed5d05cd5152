/-
  Plain mathematics of the law TreeApart: the depth and the names of a list and of its parts. By an AI agent.
-/
import Derived.Test.YtmahbocelckmcaaTreeWhole
import Derived.Test.YtmahbocelckmcaaTreeDepth
import Derived.Test.YtmahbocelckmcaaTreeNames
namespace Go.Proofs.Ytmahbocelckmcaa.Tree
open Go.RowKit Go.Proofs.Ytmahbocelckmcaa.Ints

theorem snoc_ind {α : Type} {motive : List α → Prop} (nil : motive []) (snoc : ∀ l a, motive l → motive (l ++ [a])) (l : List α) : motive l := by
  have key : ∀ r : List α, motive r.reverse := fun r => by
    induction r with
    | nil => exact nil
    | cons a r ih => rw [List.reverse_cons]; exact snoc _ a ih
  have := key l.reverse
  rwa [List.reverse_reverse] at this
theorem deep_congr {ds es : List Int} : ∀ (ks : List Int) (f : Int → Int) (_ : ∀ k ∈ ks, ds[(f k).toNat]?.getD 0 = es[k.toNat]?.getD 0) (m : Int),
    (ks.map f).foldl (fun m k => max m (ds[k.toNat]?.getD 0)) m = ks.foldl (fun m k => max m (es[k.toNat]?.getD 0)) m
  | [], _, _, _ => rfl
  | k :: ks, f, h, m => by
    simp only [List.map_cons, List.foldl_cons]
    rw [h k List.mem_cons_self]
    exact deep_congr ks f (fun x hx => h x (List.mem_cons_of_mem _ hx)) _
/-- The depths of a list behind another. -/
theorem depths_behind (a : List Nd) : ∀ (b : List Nd), (∀ (i : Nat) (n : Nd), b[i]? = some n → ∀ k ∈ n.kids, 0 ≤ k ∧ k < (i : Int)) → depths (a ++ b.map (shiftNd (a.length : Int))) = depths a ++ depths b := by
  intro b
  induction b using snoc_ind with
  | nil => intro _; simp [depths]
  | snoc b n ih =>
    intro h
    have hb : ∀ (i : Nat) (x : Nd), b[i]? = some x → ∀ k ∈ x.kids, 0 ≤ k ∧ k < (i : Int) := fun i x hx => h i x (by rw [List.getElem?_append_left (List.getElem?_eq_some_iff.1 hx).1]; exact hx)
    have hn := h b.length n (by simp)
    rw [List.map_append, ← List.append_assoc, List.map_cons, List.map_nil, depths_snoc, ih hb, depths_snoc, List.append_assoc]
    congr 2
    congr 2
    unfold deep shiftNd
    refine deep_congr n.kids _ (fun k hk => ?_) 0
    obtain ⟨h0, h1⟩ := hn k hk
    obtain ⟨j, rfl⟩ := Int.eq_ofNat_of_zero_le h0
    have hj : j < b.length := by omega
    have e : ((j : Int) + (a.length : Int)).toNat = (depths a).length + j := by rw [depths_len]; omega
    simp only [e]
    rw [List.getElem?_append_right (by omega)]
    simp
theorem depth_pos {l : List Nd} : ∀ d ∈ depths l, 0 ≤ d := by
  induction l using snoc_ind with
  | nil => intro d hd; simp [depths] at hd
  | snoc l n ih =>
    intro d hd
    rw [depths_snoc, List.mem_append] at hd
    rcases hd with hd | hd
    · exact ih d hd
    · have key : ∀ (ks : List Int) (m : Int), 0 ≤ m → 0 ≤ ks.foldl (fun m k => max m ((depths l)[k.toNat]?.getD 0)) m := by
        intro ks
        induction ks with
        | nil => intro m hm; exact hm
        | cons k ks ihk => intro m hm; exact ihk _ (Int.le_trans hm (Int.le_max_left _ _))
      rw [List.mem_singleton.1 hd]
      have := key n.kids 0 (Int.le_refl _)
      unfold deep
      omega
theorem depth_of {l : List Nd} (h : mayL l = true) : depthL l = (depths l)[l.length - 1]?.getD 0 := by
  unfold depthL
  rw [if_pos h, List.getLast?_eq_getElem?, depths_len]
theorem depth_nonneg (l : List Nd) : 0 ≤ depthL l := by
  unfold depthL
  split
  · cases h : (depths l).getLast? with
    | none => exact Int.le_refl _
    | some d => exact depth_pos d (List.mem_of_getLast? h)
  · exact Int.le_refl _
theorem depth_le (l : List Nd) : depthL l ≤ (l.length : Int) := by
  unfold depthL
  split
  · have := (depths_bound l l.length (Nat.le_refl _) (l.length - 1)).2
    rw [List.take_length] at this
    rw [List.getLast?_eq_getElem?, depths_len]
    exact this
  · omega
/-- The depth of a list that is made over two. -/
theorem depth_over2 {n : Nd} {a b : List Nd} (ha : mayL a = true) (hb : mayL b = true) (ho : mayL (overL n a b) = true) : depthL (overL n a b) = max (max 0 (depthL a)) (depthL b) + 1 := by
  have h1 := may_ne ha
  have h2 := may_ne hb
  have hd := depths_behind a b (kids_ahead hb)
  rw [depth_of ho]
  unfold overL
  rw [depths_snoc, hd]
  have e : (a ++ b.map (shiftNd (a.length : Int)) ++ [({ n with kids := (if a = [] then [] else [(a.length : Int) - 1]) ++ (if b = [] then [] else [(a.length : Int) + b.length - 1]) } : Nd)]).length - 1 = (depths a ++ depths b).length := by
    simp [depths_len]
  rw [e, List.getElem?_append_right (Nat.le_refl _), Nat.sub_self]
  rw [if_neg (List.ne_nil_of_length_pos h1), if_neg (List.ne_nil_of_length_pos h2), depth_of ha, depth_of hb]
  simp only [List.getElem?_cons_zero, Option.getD_some, deep, List.cons_append, List.nil_append, List.foldl_cons, List.foldl_nil]
  rw [show ((a.length : Int) - 1).toNat = a.length - 1 by omega, show ((a.length : Int) + b.length - 1).toNat = (depths a).length + (b.length - 1) by rw [depths_len]; omega,
    List.getElem?_append_left (by rw [depths_len]; omega), List.getElem?_append_right (by omega), Nat.add_sub_cancel_left]
theorem depth_over1 {n : Nd} {a : List Nd} (ha : mayL a = true) (ho : mayL (overL n a []) = true) : depthL (overL n a []) = max 0 (depthL a) + 1 := by
  have h1 := may_ne ha
  rw [depth_of ho]
  unfold overL
  rw [List.map_nil, List.append_nil, depths_snoc]
  have e : (a ++ [({ n with kids := (if a = [] then [] else [(a.length : Int) - 1]) ++ (if ([] : List Nd) = [] then [] else [(a.length : Int) + ([] : List Nd).length - 1]) } : Nd)]).length - 1 = (depths a).length := by
    simp [depths_len]
  rw [e, List.getElem?_append_right (Nat.le_refl _), Nat.sub_self, if_neg (List.ne_nil_of_length_pos h1), depth_of ha]
  simp only [if_true, List.append_nil, List.getElem?_cons_zero, Option.getD_some, deep, List.foldl_cons, List.foldl_nil]
  rw [show ((a.length : Int) - 1).toNat = a.length - 1 by omega]
theorem depth_over0 {n : Nd} (ho : mayL (overL n [] []) = true) : depthL (overL n [] []) = 0 + 1 := by
  rw [depth_of ho]
  simp [overL, depths, deep]

/-! ### the names -/
theorem prop_mem (s : List UInt8) : ∀ (l : List Nd), s ∈ propNames l ↔ ∃ n ∈ l, n.kind = 3 ∧ n.name.data.toList = s := by
  intro l
  induction l using snoc_ind with
  | nil => simp [propNames]
  | snoc l n ih =>
    have e : propNames (l ++ [n]) = nameNext (propNames l) n := by unfold propNames; rw [List.foldl_append]; rfl
    rw [e]
    unfold nameNext
    constructor
    · intro h
      split at h
      · rename_i hc
        rcases List.mem_append.1 h with h | h
        · obtain ⟨x, hx, hh⟩ := ih.1 h
          exact ⟨x, List.mem_append_left _ hx, hh⟩
        · exact ⟨n, List.mem_append_right _ List.mem_cons_self, hc.1, (List.mem_singleton.1 h).symm⟩
      · obtain ⟨x, hx, hh⟩ := ih.1 h
        exact ⟨x, List.mem_append_left _ hx, hh⟩
    · rintro ⟨x, hx, h1, h2⟩
      have hin : s ∈ propNames l ∨ x = n := by
        rcases List.mem_append.1 hx with hx | hx
        · exact Or.inl (ih.2 ⟨x, hx, h1, h2⟩)
        · exact Or.inr (List.mem_singleton.1 hx)
      split
      · rename_i hc
        rcases hin with h | h
        · exact List.mem_append_left _ h
        · subst h; exact List.mem_append_right _ (by rw [h2]; exact List.mem_cons_self)
      · rename_i hc
        rcases hin with h | h
        · exact h
        · subst h
          rw [← h2]
          exact Classical.byContradiction fun hn => hc ⟨h1, hn⟩
theorem names_mem {l : List Nd} (h : mayL l = true) (s : List UInt8) : s ∈ namesL l ↔ ∃ n ∈ l, n.kind = 3 ∧ n.name.data.toList = s := by
  unfold namesL
  rw [if_pos h, List.mem_mergeSort]
  exact prop_mem s l
theorem names_short (l : List Nd) : (namesL l).length ≤ l.length := by
  unfold namesL
  split
  · have := names_len l l.length
    rw [List.take_of_length_le (Nat.le_refl _)] at this
    rw [List.length_mergeSort]; omega
  · exact Nat.zero_le _
/-- The names of a part are names of the whole. -/
theorem part_names {l : List Nd} (h : mayL l = true) {i : Nat} (hi : i < l.length) {s : List UInt8} (hs : s ∈ namesL (partL l (i : Int))) : s ∈ namesL l := by
  obtain ⟨n, hn, h1, h2⟩ := (names_mem (part_may h hi) s).1 hs
  rw [part_eq h hi] at hn
  unfold cutT at hn
  obtain ⟨x, hx, rfl⟩ := List.mem_map.1 hn
  exact (names_mem h s).2 ⟨x, List.mem_of_mem_take (List.mem_of_mem_drop hx), h1, h2⟩
end Go.Proofs.Ytmahbocelckmcaa.Tree
