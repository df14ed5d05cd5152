/-
  The walk of the reference's Nest. By an AI agent.
  How deep a text is nested, told from the root down. By an AI agent.
-/
import Derived.Test.YthcbgneoonekkaaGreatDoorGShowBack8
import Derived.Test.YthcbgneoonekkaaGreatDoorGShowBack16
import Derived.Test.YthcbgneoonekkaaGreatDoorGShowBack4
import Derived.Laws.MakeOwn
import Derived.RegionTactic
import Derived.ChangeAlike
import Derived.StillTailTactics
import Derived.BigQuiet
import Derived.Deep.QuietTactic
import Derived.Lib.MinMax
import Derived.Test.YthcbgneoonekkaaGreatDoorGShowBack9
namespace Go.Proofs.YthcbgneoonekkaaGreatDoor.Show
open Go.RowKit Go.Proofs.YthcbgneoonekkaaGreatDoor.Tree Go.Proofs.YthcbgneoonekkaaGreatDoor.Itoa Go.Proofs.YthcbgneoonekkaaGreatDoor.Ints
open Go.Proofs.YthcbgneoonekkaaGreatDoor.Parse (Blk Blk.new)

theorem kidsN_snoc (ds : List Nat) (l : List Nd) (n : Nd) (k : Int) : ∀ (ks : List Int) (w : Nat), kidsN ds l n w (ks ++ [k]) = max (kidsN ds l n w ks) (kidN ds l n (w + ks.length) k)
  | [], w => by simp [kidsN]
  | x :: r, w => by
    rw [List.cons_append]
    show max (kidN ds l n w x) (kidsN ds l n (w + 1) (r ++ [k])) = max (max (kidN ds l n w x) (kidsN ds l n (w + 1) r)) _
    rw [kidsN_snoc ds l n k r (w + 1), List.length_cons, show w + 1 + r.length = w + (r.length + 1) by omega, Nat.max_assoc]
theorem nst_bound {l : List Nd} (h : mayL l = true) : ∀ i, i < l.length → nst l i ≤ 2 * i + 2 := by
  intro i
  induction i using Nat.strongRecOn with
  | ind i ih =>
    intro hi
    obtain ⟨n, hn⟩ : ∃ n, l[i]? = some n := ⟨_, List.getElem?_eq_getElem hi⟩
    have hd : (if deeper n.kind = true then 1 else 0) ≤ 1 := by split <;> omega
    have hkd : ∀ w t, t < i → kidD l n w t ≤ 2 * t + 3 := by
      intro w t ht
      have := ih t ht (by omega)
      unfold kidD
      split <;> omega
    rw [nst_node hn]
    unfold nodeN
    obtain ⟨-, -, hk⟩ := kids_at h hn
    rcases hk with ⟨e, -, -⟩ | ⟨t, e, -, -, -, hti⟩ | ⟨t, u, e, -, -, hle, -, htu, hui⟩
    · rw [e]; show 0 + _ ≤ _; omega
    · rw [e]
      show max (kidN (nestsTo l i) l n 0 (t : Int)) 0 + _ ≤ _
      rw [kidN_at (by omega) (by omega)]
      have := hkd 0 t (by omega)
      omega
    · rw [e]
      show max (kidN (nestsTo l i) l n 0 (t : Int)) (max (kidN (nestsTo l i) l n 1 (u : Int)) 0) + _ ≤ _
      rw [kidN_at (by omega) (by omega), kidN_at (by omega) (by omega)]
      have := hkd 0 t (by omega)
      have := hkd 1 u (by omega)
      omega
def ints' (ds : List Nat) : List Int := ds.map fun x : Nat => (x : Int)
def nRow (n k : Nat) (l : List Nd) (v : Nat) : List Int := ints' (nestsTo l k) ++ (v : Int) :: List.replicate (n - k - 1) 0
def nAt (n k : Nat) (l : List Nd) : List Int := if k < n then nRow n k l 0 else ints' (nestsTo l k)
theorem ints_len (ds : List Nat) : (ints' ds).length = ds.length := List.length_map ..
theorem ints_at {ds : List Nat} {j : Nat} (h : j < ds.length) : (ints' ds)[j]?.getD 0 = ((ds.getD j 0 : Nat) : Int) := by
  unfold ints'
  rw [List.getElem?_map, List.getD_eq_getElem?_getD, List.getElem?_eq_getElem h]
  rfl
theorem nRow_at {n k : Nat} {l : List Nd} (hl : l.length = n) (hk : k < n) (v : Nat) : (nRow n k l v)[k]?.getD 0 = (v : Int) := by
  have : (ints' (nestsTo l k)).length = k := by rw [ints_len, nestsTo_len (by omega)]
  unfold nRow
  rw [List.getElem?_append_right (by omega), this]
  simp
theorem nRow_low {n k j : Nat} {l : List Nd} (hl : l.length = n) (hk : k < n) (hj : j < k) (v : Nat) : (nRow n k l v)[j]?.getD 0 = ((nst l j : Nat) : Int) := by
  have h1 : (nestsTo l k).length = k := nestsTo_len (by omega)
  unfold nRow
  rw [List.getElem?_append_left (by rw [ints_len]; omega), ints_at (by omega), nestsTo_low hj (by omega)]
theorem nRow_set {n k : Nat} {l : List Nd} (hl : l.length = n) (hk : k < n) (v u : Nat) : (nRow n k l v).set k (u : Int) = nRow n k l u := by
  have : (ints' (nestsTo l k)).length = k := by rw [ints_len, nestsTo_len (by omega)]
  unfold nRow
  rw [List.set_append_right _ _ (by omega), this, Nat.sub_self]
  rfl
theorem nRow_next {n k : Nat} {l : List Nd} {nd : Nd} (hl : l.length = n) (hnd : l[k]? = some nd) : nRow n k l (nst l k) = nAt n (k + 1) l := by
  have hk := (List.getElem?_eq_some_iff.1 hnd).1
  have e0 : ints' (nestsTo l (k + 1)) = ints' (nestsTo l k) ++ [((nst l k : Nat) : Int)] := by
    rw [nestsTo_succ hnd, nst_node hnd]
    unfold ints'
    rw [List.map_append]
    rfl
  unfold nAt nRow
  by_cases h : k + 1 < n
  · rw [if_pos h]
    show ints' (nestsTo l k) ++ ((nst l k : Nat) : Int) :: List.replicate (n - k - 1) 0 = ints' (nestsTo l (k + 1)) ++ ((0 : Nat) : Int) :: List.replicate (n - (k + 1) - 1) 0
    rw [e0, List.append_assoc]
    congr 1
    have e : n - k - 1 = (n - (k + 1) - 1) + 1 := by omega
    rw [e, List.replicate_succ]; rfl
  · rw [if_neg h, e0]
    have e : n - k - 1 = 0 := by omega
    rw [e, List.replicate_zero]
theorem nRow_start (n : Nat) (l : List Nd) (h0 : 0 < n) : List.replicate n 0 = nAt n 0 l := by
  obtain ⟨m, rfl⟩ : ∃ m, n = m + 1 := ⟨n - 1, by omega⟩
  unfold nAt nRow
  rw [if_pos h0, List.replicate_succ]
  simp [nestsTo, nestsF, ints']
theorem made_nests (n : Nat) : (madeCells (Value.int .i64 0).cells (n * 1)).toList = (List.replicate n (0 : Int)).map (Value.int .i64) := by
  rw [Nat.mul_one]
  apply List.ext_getElem
  · simp [madeCells]
  · intro i h1 h2
    have e : (Value.int .i64 0).cells = #[Value.int .i64 0] := rfl
    simp [madeCells, e, Nat.mod_one]
theorem belN (w : World) (n B : Nat) : Below B w (w.drewN n) := ⟨rfl, rfl, rfl, Nat.le_refl _, fun _ _ => rfl⟩
theorem deeper_ways {k : Int} (h : deeper k = true) : k = 4 ∨ k = 8 ∨ k = 9 ∨ k = 10 ∨ k = 11 ∨ k = 12 ∨ k = 13 ∨ k = 16 ∨ k = 17 ∨ k = 19 := by
  unfold deeper at h
  rw [decide_eq_true_eq] at h
  omega
theorem deeper_not {k : Int} (h : deeper k = false) : (k == 4) = false ∧ (k == 8) = false ∧ (k == 9) = false ∧ (k == 10) = false ∧ (k == 11) = false ∧ (k == 12) = false ∧ (k == 13) = false ∧ (k == 16) = false ∧ (k == 17) = false ∧ (k == 19) = false := by
  unfold deeper at h
  rw [decide_eq_false_iff_not] at h
  simp only [beq_eq_false_iff_ne]
  omega

end Go.Proofs.YthcbgneoonekkaaGreatDoor.Show

namespace Go.Proofs.YthcbgneoonekkaaGreatDoor.Show
open Go.Proofs.YthcbgneoonekkaaGreatDoor.Tree

def encD (l : List Nd) (n : Nd) (j : Nat) (k : Int) : Bool := decide (rank (kindAt l k) < leastS n.kind j)
/-- How much deeper the j-th kid's text is. -/
def lev (l : List Nd) (n : Nd) (j : Nat) (k : Int) : Nat := (if n.kids.length = 1 ∧ n.kind ≠ 22 then 1 else 0) + (if encD l n j k = true then 1 else 0)
theorem lev_le (l : List Nd) (n : Nd) (j : Nat) (k : Int) : lev l n j k ≤ 2 := by
  unfold lev
  split <;> split <;> omega
def kstep (l : List Nd) (n : Nd) (d : Nat) (s : Nat × List Nat × Nat) (k : Int) : Nat × List Nat × Nat := (s.1 + 1, s.2.1.set k.toNat (d + lev l n s.1 k), max s.2.2 (d + lev l n s.1 k))
def kfold (l : List Nd) (n : Nd) (d : Nat) (s : List Nat × Nat) (ks : List Int) : Nat × List Nat × Nat := ks.foldl (kstep l n d) (0, s.1, s.2)
theorem kfold_snoc (l : List Nd) (n : Nd) (d : Nat) (s : List Nat × Nat) (ks : List Int) (k : Int) : kfold l n d s (ks ++ [k]) = kstep l n d (kfold l n d s ks) k := by unfold kfold; rw [List.foldl_append]; rfl
theorem kfold_len (l : List Nd) (n : Nd) (d : Nat) (s : List Nat × Nat) (ks : List Int) : (kfold l n d s ks).1 = ks.length ∧ (kfold l n d s ks).2.1.length = s.1.length := by
  suffices h : ∀ (ks : List Int) (s : Nat × List Nat × Nat), (ks.foldl (kstep l n d) s).1 = s.1 + ks.length ∧ (ks.foldl (kstep l n d) s).2.1.length = s.2.1.length by
    have := h ks (0, s.1, s.2)
    simpa [kfold] using this
  intro ks
  induction ks with
  | nil => intro s; exact ⟨rfl, rfl⟩
  | cons k r ih =>
    intro s
    rw [List.foldl_cons]
    obtain ⟨h1, h2⟩ := ih (kstep l n d s k)
    rw [h1, h2]
    unfold kstep
    simp only [List.length_set, List.length_cons]
    exact ⟨by omega, trivial⟩
/-- No number is greater than b. -/
def LeAll (b : Nat) (s : List Nat × Nat) : Prop := (∀ j, s.1.getD j 0 ≤ b) ∧ s.2 ≤ b
theorem getD_set {ds : List Nat} {i j x : Nat} : (ds.set i x).getD j 0 = if i = j ∧ i < ds.length then x else ds.getD j 0 := by
  rw [List.getD_eq_getElem?_getD, List.getElem?_set]
  by_cases h : i = j
  · subst h
    by_cases hl : i < ds.length
    · rw [if_pos rfl, if_pos hl, if_pos ⟨rfl, hl⟩]; rfl
    · rw [if_pos rfl, if_neg hl, if_neg (fun h => hl h.2), List.getD_eq_getElem?_getD, List.getElem?_eq_none (by omega)]
  · rw [if_neg h, if_neg (fun hh => h hh.1), List.getD_eq_getElem?_getD]
theorem kfold_le {l : List Nd} {n : Nd} {d b : Nat} {s : List Nat × Nat} (h : LeAll b s) (hd : d + 2 ≤ b) (ks : List Int) : LeAll b (kfold l n d s ks).2 := by
  suffices hh : ∀ (ks : List Int) (s : Nat × List Nat × Nat), LeAll b s.2 → LeAll b (ks.foldl (kstep l n d) s).2 from hh ks _ h
  intro ks
  induction ks with
  | nil => intro s hs; exact hs
  | cons k r ih =>
    intro s hs
    rw [List.foldl_cons]
    refine ih _ ⟨fun j => ?_, ?_⟩
    · have := lev_le l n s.1 k
      show (s.2.1.set k.toNat (d + lev l n s.1 k)).getD j 0 ≤ b
      rw [getD_set]
      split
      · omega
      · exact hs.1 j
    · have := lev_le l n s.1 k
      have := hs.2
      show max s.2.2 (d + lev l n s.1 k) ≤ b
      omega
/-- The node at i is looked at. -/
def downN (l : List Nd) (i : Nat) (s : List Nat × Nat) : List Nat × Nat := match l[i]? with
  | some n => (kfold l n (s.1.getD i 0) s n.kids).2
  | none => s
def runD (l : List Nd) : Nat → List Nat × Nat → List Nat × Nat
  | 0, s => s
  | c + 1, s => runD l c (downN l c s)
theorem downN_eq {l : List Nd} {i : Nat} {n : Nd} (h : l[i]? = some n) (s : List Nat × Nat) : downN l i s = (kfold l n (s.1.getD i 0) s n.kids).2 := by unfold downN; rw [h]
theorem lev_one {l : List Nd} {i t : Nat} {n : Nd} (hn : l[i]? = some n) (hk : n.kids = [(t : Int)]) (hc : kidc n.kind = 1) (hr : 1 ≤ n.kind ∧ n.kind ≤ 22) (ht : t < i) : nst l i = lev l n 0 (t : Int) + nst l t := by
  have hil := (List.getElem?_eq_some_iff.1 hn).1
  rw [nst_node hn, hk]
  show nodeN n (max (kidN (nestsTo l i) l n 0 (t : Int)) 0) = _
  rw [kidN_at ht (by omega)]
  unfold nodeN lev kidD encD
  rw [enc_bare _ _ _ hr (Or.inl ⟨hc, rfl⟩), hk]
  have h22 : deeper n.kind = true ↔ n.kind ≠ 22 := by
    unfold deeper
    rw [decide_eq_true_eq]
    unfold kidc none0 twos at hc
    simp only [List.mem_cons, List.not_mem_nil, or_false] at hc
    repeat' split at hc
    all_goals first | (exfalso; revert hc; decide) | omega
  have e1 : ([(t : Int)] : List Int).length = 1 := rfl
  rw [e1]
  have e2 : (if deeper n.kind = true then 1 else 0) = (if (1 : Nat) = 1 ∧ n.kind ≠ 22 then 1 else 0) := by
    by_cases h : n.kind ≠ 22
    · rw [if_pos (h22.2 h), if_pos ⟨rfl, h⟩]
    · rw [if_neg (fun hh => h (h22.1 hh)), if_neg (fun hh => h hh.2)]
  rw [e2]
  obtain ⟨z, hz⟩ : ∃ z, (if (1 : Nat) = 1 ∧ n.kind ≠ 22 then 1 else 0) = z := ⟨_, rfl⟩
  rw [hz]
  obtain ⟨y, hy⟩ : ∃ y, nst l t = y := ⟨_, rfl⟩
  rw [hy]
  cases bare n.kind 0 (kindAt l (t : Int)) <;> simp <;> omega
theorem lev_two {l : List Nd} {i t u : Nat} {n : Nd} (hn : l[i]? = some n) (hk : n.kids = [(t : Int), (u : Int)]) (hc : kidc n.kind = 2) (hr : 1 ≤ n.kind ∧ n.kind ≤ 22) (ht : t < i) (hu : u < i) : nst l i = max (lev l n 0 (t : Int) + nst l t) (lev l n 1 (u : Int) + nst l u) := by
  have hil := (List.getElem?_eq_some_iff.1 hn).1
  rw [nst_node hn, hk]
  show nodeN n (max (kidN (nestsTo l i) l n 0 (t : Int)) (max (kidN (nestsTo l i) l n 1 (u : Int)) 0)) = _
  rw [kidN_at ht (by omega), kidN_at hu (by omega)]
  unfold nodeN lev kidD encD
  rw [enc_bare _ _ _ hr (Or.inr ⟨hc, by decide⟩), enc_bare _ _ _ hr (Or.inr ⟨hc, by decide⟩), hk]
  have hd : deeper n.kind = false := by
    unfold deeper
    rw [decide_eq_false_iff_not]
    unfold kidc none0 twos at hc
    simp only [List.mem_cons, List.not_mem_nil, or_false] at hc
    repeat' split at hc
    all_goals first | (exfalso; revert hc; decide) | omega
  have e1 : ([(t : Int), (u : Int)] : List Int).length = 2 := rfl
  rw [hd, e1]
  cases bare n.kind 0 (kindAt l (t : Int)) <;> cases bare n.kind 1 (kindAt l (u : Int)) <;> simp <;> omega
theorem lev_none {l : List Nd} {i : Nat} {n : Nd} (hn : l[i]? = some n) (hk : n.kids = []) (hc : kidc n.kind = 0) : nst l i = 0 := by
  rw [nst_node hn, hk]
  unfold nodeN
  have hd : deeper n.kind = false := by
    unfold deeper
    rw [decide_eq_false_iff_not]
    unfold kidc none0 twos at hc
    simp only [List.mem_cons, List.not_mem_nil, or_false] at hc
    repeat' split at hc
    all_goals first | (exfalso; revert hc; decide) | omega
  rw [hd]
  rfl
theorem run_part {l : List Nd} (h : mayL l = true) : ∀ (i : Nat), i < l.length → ∀ (ds : List Nat) (m : Nat), ds.length = l.length → ds.getD i 0 ≤ m →
    ∃ ds', runD l (i + 1) (ds, m) = runD l (startL l i) (ds', max m (ds.getD i 0 + nst l i)) ∧ ds'.length = l.length ∧ ∀ j, j < startL l i → ds'.getD j 0 = ds.getD j 0 := by
  intro i
  induction i using Nat.strongRecOn with
  | ind i ih =>
    intro hi ds m hl hm
    obtain ⟨n, hn⟩ : ∃ n, l[i]? = some n := ⟨_, List.getElem?_eq_getElem hi⟩
    obtain ⟨hf, -, hk⟩ := kids_at h hn
    have hr : 1 ≤ n.kind ∧ n.kind ≤ 22 := by
      unfold fieldsB at hf
      rw [Bool.and_eq_true, kinds_range] at hf
      exact hf.1
    show ∃ ds', runD l i (downN l i (ds, m)) = _ ∧ _
    rw [downN_eq hn]
    obtain ⟨d, hd⟩ : ∃ d, ds.getD i 0 = d := ⟨_, rfl⟩
    have hd' : (ds, m).1.getD i 0 = d := hd
    rw [hd']
    rw [hd] at hm
    rcases hk with ⟨e, hc, hs⟩ | ⟨t, e, hc, hs, hle, hti⟩ | ⟨t, u, e, hc, hs, hle, hs2, htu, hui⟩
    · rw [e, lev_none hn e hc, hs]
      refine ⟨ds, ?_, hl, fun j _ => rfl⟩
      show runD l i (ds, m) = _
      rw [Nat.add_zero, Nat.max_eq_left hm]
    · rw [lev_one hn e hc hr (by omega), e, hs]
      show ∃ ds', runD l i (ds.set (t : Int).toNat (d + lev l n 0 (t : Int)), max m (d + lev l n 0 (t : Int))) = _ ∧ _
      rw [Int.toNat_natCast, ← hti]
      obtain ⟨x, hx⟩ : ∃ x, lev l n 0 (t : Int) = x := ⟨_, rfl⟩
      rw [hx]
      have e1 : (ds.set t (d + x)).getD t 0 = d + x := by rw [getD_set, if_pos ⟨rfl, by omega⟩]
      obtain ⟨ds', h1, h2, h3⟩ := ih t (by omega) (by omega) (ds.set t (d + x)) (max m (d + x)) (by rw [List.length_set]; exact hl) (by rw [e1]; omega)
      refine ⟨ds', ?_, h2, fun j hj => ?_⟩
      · rw [h1, e1]
        congr 2
        omega
      · rw [h3 j hj, getD_set, if_neg (by omega)]
    · rw [lev_two hn e hc hr (by omega) (by omega), e, hs]
      show ∃ ds', runD l i ((ds.set (t : Int).toNat (d + lev l n 0 (t : Int))).set (u : Int).toNat (d + lev l n 1 (u : Int)), max (max m (d + lev l n 0 (t : Int))) (d + lev l n 1 (u : Int))) = _ ∧ _
      rw [Int.toNat_natCast, Int.toNat_natCast, ← hui]
      obtain ⟨x, hx⟩ : ∃ x, lev l n 0 (t : Int) = x := ⟨_, rfl⟩
      obtain ⟨y, hy⟩ : ∃ y, lev l n 1 (u : Int) = y := ⟨_, rfl⟩
      rw [hx, hy]
      have e1 : ((ds.set t (d + x)).set u (d + y)).getD u 0 = d + y := by rw [getD_set, if_pos ⟨rfl, by rw [List.length_set]; omega⟩]
      obtain ⟨ds1, h1, h2, h3⟩ := ih u (by omega) (by omega) ((ds.set t (d + x)).set u (d + y)) (max (max m (d + x)) (d + y)) (by rw [List.length_set, List.length_set]; exact hl) (by rw [e1]; omega)
      have e2 : ds1.getD t 0 = d + x := by rw [h3 t (by omega), getD_set, if_neg (by omega), getD_set, if_pos ⟨rfl, by omega⟩]
      rw [h1, e1, hs2]
      obtain ⟨ds2, k1, k2, k3⟩ := ih t (by omega) (by omega) ds1 (max (max (max m (d + x)) (d + y)) (d + y + nst l u)) h2 (by rw [e2]; omega)
      refine ⟨ds2, ?_, k2, fun j hj => ?_⟩
      · rw [k1, e2]
        congr 2
        omega
      · rw [k3 j hj, h3 j (by omega), getD_set, if_neg (by omega), getD_set, if_neg (by omega)]
theorem start_zero {l : List Nd} (h : mayL l = true) : startL l (l.length - 1) = 0 := by
  have hT := tiles_upTo h l.length [l.length - 1] (Nat.le_refl _) (may_top h)
  exact hT.1.2.2.2
theorem run_whole {l : List Nd} (h : mayL l = true) : (runD l l.length (List.replicate l.length 0, 0)).2 = nestL l := by
  have h0 := may_ne h
  have e0 : (List.replicate l.length 0).getD (l.length - 1) 0 = 0 := by
    rw [List.getD_eq_getElem?_getD, List.getElem?_replicate]
    split <;> rfl
  obtain ⟨ds', h1, -, -⟩ := run_part h (l.length - 1) (by omega) (List.replicate l.length 0) 0 (List.length_replicate ..) (by rw [e0]; exact Nat.le_refl _)
  rw [show l.length - 1 + 1 = l.length by omega, start_zero h, e0] at h1
  rw [h1]
  show max 0 (0 + nst l (l.length - 1)) = _
  rw [Nat.zero_add, Nat.zero_max]
  unfold nestL
  rw [if_pos h]
end Go.Proofs.YthcbgneoonekkaaGreatDoor.Show
