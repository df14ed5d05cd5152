/-
  A list that may be is its root over the parts of its kids, which may be; and the other way round. By an AI agent.
-/
import Derived.Test.YtdbgaccnejffpaaGreatDoorGSatDual5
namespace Go.Proofs.YtdbgaccnejffpaaGreatDoor.Tree
open Go.RowKit
theorem upTo_succ {l : List Nd} {i : Nat} {st' : List Nat} (h : mayUpTo l (i + 1) = some st') : ∃ st n, mayUpTo l i = some st ∧ l[i]? = some n ∧
  (kidc n.kind ≤ st.length ∧ n.kids = (zints st).drop (st.length - kidc n.kind) ∧ fieldsB n = true ∧ kidsB l n = true) ∧ st' = st.take (st.length - kidc n.kind) ++ [i] := by
 rw [mayUpTo] at h
 obtain ⟨st, h1, h2⟩ := Option.bind_eq_some_iff.1 h
 have hn : ∃ n, l[i]? = some n := by
  cases hx : l[i]? with
  | some n => exact ⟨n, rfl⟩
  | none => unfold mayStep at h2; rw [hx] at h2; cases h2
 obtain ⟨n, hn⟩ := hn
 rw [land_step h1 hn] at h2
 unfold landStep at h2
 split at h2
 ·rename_i hc
  injection h2 with h2
  exact ⟨st, n, h1, hn, hc, h2.symm⟩
 ·cases h2
theorem upTo_last {l : List Nd} {i : Nat} {st' : List Nat} (h : mayUpTo l (i + 1) = some st') : ∃ ts, st' = ts ++ [i] := by
 obtain ⟨st, n, -, -, -, rfl⟩ := upTo_succ h
 exact ⟨_, rfl⟩
theorem kid_bounds {l : List Nd} {i : Nat} {st : List Nat} {n : Nd} (hu : mayUpTo l i = some st) (hk : n.kids = (zints st).drop (st.length - kidc n.kind)) : ∀ k ∈ n.kids, ∃ t : Nat, k = (t : Int) ∧ t < i := by
 intro k hm
 rw [hk] at hm
 obtain ⟨t, ht, rfl⟩ := List.mem_map.1 (List.mem_of_mem_drop hm)
 exact ⟨t, rfl, (upTo_lt l i st hu).1 t ht⟩
theorem shift_kind (d : Int) (n : Nd) : (shiftNd d n).kind = n.kind := rfl
theorem shift_zero (n : Nd) : shiftNd 0 n = n := by
 unfold shiftNd
 simp
theorem shift_shift (a b : Int) (n : Nd) : shiftNd a (shiftNd b n) = shiftNd (b + a) n := by
 unfold shiftNd
 simp [Function.comp_def, Int.add_assoc]
theorem upTo_within {L b : List Nd} {p : Nat} {st0 : List Nat} (h0 : mayUpTo L p = some st0) : ∀ (i : Nat) (st : List Nat), mayUpTo b i = some st → (∀ j, j < i → L[p + j]? = (b[j]?).map (shiftNd (p : Int))) → mayUpTo L (p + i) = some (st0 ++ st.map (· + p)) := by
 intro i
 induction i with
 | zero =>
  intro st h _
  cases h
  simpa using h0
 | succ i ih =>
  intro st' h hL
  obtain ⟨st, n, hu, hn, ⟨c1, c2, c3, c4⟩, rfl⟩ := upTo_succ h
  have hI := ih st hu fun j hj => hL j (by omega)
  have hLi : L[p + i]? = some (shiftNd (p : Int) n) := by rw [hL i (by omega), hn]; rfl
  have hkb := kid_bounds hu c2
  have hz : zints (st0 ++ st.map (· + p)) = zints st0 ++ (zints st).map (· + (p : Int)) := by
   unfold zints
   rw [List.map_append, List.map_map, List.map_map]
   congr 1
  have hlen : (st0 ++ st.map (· + p)).length = st0.length + st.length := by rw [List.length_append, List.length_map]
  have hzl : (zints st0).length = st0.length := by unfold zints; rw [List.length_map]
  have hcond : kidc (shiftNd (p : Int) n).kind ≤ (st0 ++ st.map (· + p)).length ∧ (shiftNd (p : Int) n).kids = (zints (st0 ++ st.map (· + p))).drop ((st0 ++ st.map (· + p)).length - kidc (shiftNd (p : Int) n).kind) ∧ fieldsB (shiftNd (p : Int) n) = true ∧ kidsB L (shiftNd (p : Int) n) = true := by
   rw [shift_kind, hlen]
   refine ⟨by omega, ?_, c3, ?_⟩
   ·rw [hz, List.drop_append, hzl, List.drop_eq_nil_of_le (by rw [hzl]; omega), List.nil_append, ← List.map_drop]
    show n.kids.map (· + (p : Int)) = _
    rw [c2]
    congr 2
    omega
   ·unfold kidsB at c4 ⊢
    rw [List.all_eq_true] at c4 ⊢
    intro k hk
    obtain ⟨k0, hk0, rfl⟩ := List.mem_map.1 hk
    obtain ⟨t, rfl, ht⟩ := hkb k0 hk0
    have := c4 _ hk0
    have e : kindAt L ((t : Int) + (p : Int)) = kindAt b (t : Int) := by
     unfold kindAt
     rw [show ((t : Int) + (p : Int)).toNat = p + t by omega, Int.toNat_natCast, hL t (by omega)]
     cases b[t]? <;> rfl
    rw [e]
    exact this
  have := land_go hI hLi hcond
  rw [show p + (i + 1) = p + i + 1 by omega, this, shift_kind, hlen]
  congr 1
  rw [List.take_append, List.take_of_length_le (by omega), List.map_append, List.map_take, List.append_assoc]
  congr 2
  ·congr 1; omega
  ·simp; omega
theorem upTo_front {L a : List Nd} {i : Nat} {st : List Nat} (h : mayUpTo a i = some st) (hL : ∀ j, j < i → L[j]? = a[j]?) : mayUpTo L i = some st := by
 have := upTo_within (L := L) (b := a) (p := 0) (st0 := []) rfl i st h (fun j hj => by
  rw [Nat.zero_add, hL j hj]
  show a[j]? = a[j]?.map (shiftNd 0)
  cases a[j]? with
  | none => rfl
  | some n => rw [Option.map_some, shift_zero])
 simpa using this
theorem may_top {a : List Nd} (h : mayL a = true) : mayUpTo a a.length = some [a.length - 1] := by
 obtain ⟨st, h1, h2⟩ := may_all h
 have h0 := may_ne h
 obtain ⟨m, hm⟩ : ∃ m, a.length = m + 1 := ⟨a.length - 1, by omega⟩
 rw [hm] at h1 ⊢
 obtain ⟨ts, rfl⟩ := upTo_last h1
 have : ts = [] := by
  simp at h2
  exact h2
 subst this
 simpa using h1
theorem may_of {l : List Nd} {i : Nat} (h : mayUpTo l l.length = some [i]) : mayL l = true := by
 rw [may_end h]; rfl
theorem lastKind_at {a : List Nd} (_h : 0 < a.length) : kindAt a ((a.length - 1 : Nat) : Int) = lastKind a := by
 unfold kindAt lastKind
 rw [Int.toNat_natCast, List.getLast?_eq_getElem?]
theorem may_over0 {n : Nd} (h0 : kidc n.kind = 0) (hf : fieldsB n = true) : mayL (overL n [] []) = true := by
 have e : overL n [] [] = [{ n with kids := [] }] := rfl
 rw [e]
 apply may_of (i := 0)
 have := land_go (l := [{ n with kids := [] }]) (st := []) (i := 0) (n := { n with kids := [] }) rfl rfl ⟨by show kidc n.kind ≤ 0; omega, by show ([] : List Int) = _; simp [zints], hf, rfl⟩
 simpa using this
theorem may_over1 {n : Nd} {a : List Nd} (h0 : kidc n.kind = 1) (hf : fieldsB n = true) (ha : mayL a = true) (hk : regKind (lastKind a) = takesReg n.kind) : mayL (overL n a []) = true := by
 have hne := may_ne ha
 have hnil : a ≠ [] := fun e => by rw [e] at hne; simp at hne
 have e : overL n a [] = a ++ [{ n with kids := [((a.length - 1 : Nat) : Int)] }] := by
  unfold overL
  rw [if_neg hnil, if_pos rfl]
  simp only [List.map_nil, List.append_nil]
  congr 4
  omega
 have hlen : (overL n a []).length = a.length + 1 := by rw [e, List.length_append]; rfl
 have h1 : mayUpTo (overL n a []) a.length = some [a.length - 1] := upTo_front (may_top ha) fun j hj => by rw [e, List.getElem?_append_left hj]
 apply may_of (i := a.length)
 rw [hlen]
 have hat : (overL n a [])[a.length]? = some { n with kids := [((a.length - 1 : Nat) : Int)] } := by rw [e]; simp
 have := land_go h1 hat ⟨by show kidc n.kind ≤ _; rw [h0]; exact Nat.le_refl _, by show _ = List.drop (_ - kidc n.kind) _; rw [h0]; rfl, hf, ?_⟩
 ·rw [this]
  show some (List.take (1 - kidc n.kind) _ ++ [a.length]) = _
  rw [h0]; rfl
 ·unfold kidsB
  rw [List.all_eq_true]
  intro k hk'
  rw [List.mem_singleton.1 hk']
  have e2 : kindAt (overL n a []) ((a.length - 1 : Nat) : Int) = lastKind a := by
   rw [← lastKind_at hne]
   unfold kindAt
   rw [Int.toNat_natCast, e, List.getElem?_append_left (by omega)]
  rw [e2, hk]
  show (takesReg n.kind == takesReg n.kind) = true
  simp
theorem over2_eq {n : Nd} {a b : List Nd} (ha : 0 < a.length) (hb : 0 < b.length) : overL n a b = a ++ b.map (shiftNd (a.length : Int)) ++ [{ n with kids := [((a.length - 1 : Nat) : Int), ((b.length - 1 + a.length : Nat) : Int)] }] := by
 unfold overL
 rw [if_neg (fun e => by rw [e] at ha; simp at ha), if_neg (fun e => by rw [e] at hb; simp at hb)]
 simp only [List.cons_append, List.nil_append]
 congr 5
 ·omega
 ·congr 1; omega
theorem may_over2 {n : Nd} {a b : List Nd} (h0 : kidc n.kind = 2) (hf : fieldsB n = true) (ha : mayL a = true) (hb : mayL b = true) (hk : regKind (lastKind a) = takesReg n.kind) (hk2 : regKind (lastKind b) = takesReg n.kind) : mayL (overL n a b) = true := by
 have hna := may_ne ha
 have hnb := may_ne hb
 have e := over2_eq (n := n) hna hnb
 have hlen : (overL n a b).length = a.length + b.length + 1 := by rw [e]; simp; omega
 have h1 : mayUpTo (overL n a b) a.length = some [a.length - 1] := upTo_front (may_top ha) fun j hj => by rw [e, List.append_assoc, List.getElem?_append_left hj]
 have hbat : ∀ j, j < b.length → (overL n a b)[a.length + j]? = (b[j]?).map (shiftNd (a.length : Int)) := fun j hj => by
  rw [e, List.append_assoc, List.getElem?_append_right (by omega), show a.length + j - a.length = j by omega, List.getElem?_append_left (by rw [List.length_map]; exact hj), List.getElem?_map]
 have h2 := upTo_within h1 b.length _ (may_top hb) hbat
 apply may_of (i := a.length + b.length)
 rw [hlen]
 have hat : (overL n a b)[a.length + b.length]? = some { n with kids := [((a.length - 1 : Nat) : Int), ((b.length - 1 + a.length : Nat) : Int)] } := by
  rw [e, List.getElem?_append_right (by simp)]
  simp
 have := land_go h2 hat ⟨by show kidc n.kind ≤ _; rw [h0]; exact Nat.le_refl _, by show _ = List.drop (_ - kidc n.kind) _; rw [h0]; rfl, hf, ?_⟩
 ·rw [this]
  show some (List.take (2 - kidc n.kind) _ ++ _) = _
  rw [h0]; rfl
 ·unfold kidsB
  rw [List.all_eq_true]
  intro k hk'
  have e1 : kindAt (overL n a b) ((a.length - 1 : Nat) : Int) = lastKind a := by
   rw [← lastKind_at hna]
   unfold kindAt
   rw [Int.toNat_natCast, e, List.append_assoc, List.getElem?_append_left (by omega)]
  have e2 : kindAt (overL n a b) ((b.length - 1 + a.length : Nat) : Int) = lastKind b := by
   rw [← lastKind_at hnb]
   unfold kindAt
   rw [Int.toNat_natCast, Int.toNat_natCast, show b.length - 1 + a.length = a.length + (b.length - 1) by omega, hbat _ (by omega)]
   cases b[b.length - 1]? <;> rfl
  rcases List.mem_cons.1 hk' with rfl | hk'
  ·rw [e1, hk]
   show (takesReg n.kind == takesReg n.kind) = true
   simp
  ·rw [List.mem_singleton.1 hk', e2, hk2]
   show (takesReg n.kind == takesReg n.kind) = true
   simp
def cutT (l : List Nd) (s e : Nat) : List Nd := ((l.take (e + 1)).drop s).map (shiftNd (-(s : Int)))
theorem cut_len {l : List Nd} {s e : Nat} (h : e < l.length) : (cutT l s e).length = e + 1 - s := by
 unfold cutT
 rw [List.length_map, List.length_drop, List.length_take]
 omega
theorem cut_at {l : List Nd} {s e j : Nat} (_h : e < l.length) (hj : s + j ≤ e) : (cutT l s e)[j]? = (l[s + j]?).map (shiftNd (-(s : Int))) := by
 unfold cutT
 rw [List.getElem?_map, List.getElem?_drop, List.getElem?_take_of_lt (by omega)]
theorem cut_lastKind {l : List Nd} {s e : Nat} (h : e < l.length) (hs : s ≤ e) : lastKind (cutT l s e) = kindAt l (e : Int) := by
 unfold lastKind kindAt
 rw [List.getLast?_eq_getElem?, cut_len h, Int.toNat_natCast, show e + 1 - s - 1 = e - s by omega, cut_at h (by omega), show s + (e - s) = e by omega]
 cases l[e]? <;> rfl
def Good (l : List Nd) (s t : Nat) : Prop := s ≤ t ∧ t < l.length ∧ mayL (cutT l s t) = true ∧ startL l t = s
def Tiles (l : List Nd) : Nat → List Nat → Nat → Prop
 | s, [], e => s = e
 | s, t :: ts, e => Good l s t ∧ Tiles l (t + 1) ts e
theorem tiles_append {l : List Nd} : ∀ (ts us : List Nat) (s e : Nat), Tiles l s (ts ++ us) e ↔ ∃ m, Tiles l s ts m ∧ Tiles l m us e
 | [], us, s, e => by simp [Tiles]
 | t :: ts, us, s, e => by
  simp only [List.cons_append, Tiles, tiles_append ts us]
  constructor
  ·rintro ⟨h1, m, h2, h3⟩; exact ⟨m, ⟨h1, h2⟩, h3⟩
  ·rintro ⟨m, ⟨h1, h2⟩, h3⟩; exact ⟨h1, m, h2, h3⟩
theorem start_fuel {l : List Nd} (hk : ∀ (i : Nat) (n : Nd), l[i]? = some n → ∀ k ∈ n.kids, 0 ≤ k ∧ k < (i : Int)) : ∀ (f g i : Nat), i < f → i < g → startF l f i = startF l g i := by
 intro f
 induction f with
 | zero => intro g i h; omega
 | succ f ih =>
  intro g i hf hg
  obtain ⟨g, rfl⟩ : ∃ g', g = g' + 1 := ⟨g - 1, by omega⟩
  unfold startF
  cases hn : l[i]? with
  | none => rfl
  | some n =>
   simp only
   cases hks : n.kids with
   | nil => rfl
   | cons k ks =>
    have := hk i n hn k (by rw [hks]; exact List.mem_cons_self)
    exact ih g k.toNat (by omega) (by omega)
theorem start_kids {l : List Nd} (hk : ∀ (i : Nat) (n : Nd), l[i]? = some n → ∀ k ∈ n.kids, 0 ≤ k ∧ k < (i : Int)) {i t : Nat} {n : Nd} {ks : List Int} (hn : l[i]? = some n) (h : n.kids = (t : Int) :: ks) : startL l i = startL l t := by
 have := hk i n hn (t : Int) (by rw [h]; exact List.mem_cons_self)
 unfold startL
 rw [startF, hn]
 simp only [h, Int.toNat_natCast]
 exact start_fuel hk _ _ _ (by omega) (by omega)
theorem start_leaf {l : List Nd} {i : Nat} {n : Nd} (hn : l[i]? = some n) (h : n.kids = []) : startL l i = i := by
 unfold startL
 rw [startF, hn]
 simp only [h]
theorem cut_split {l : List Nd} {s t i : Nat} (hs : s ≤ t) (ht : t < i) (hi : i < l.length) : cutT l s i = cutT l s t ++ (cutT l (t + 1) i).map (shiftNd ((t + 1 - s : Nat) : Int)) := by
 apply List.ext_getElem?
 intro j
 by_cases hj : j < t + 1 - s
 ·rw [List.getElem?_append_left (by rw [cut_len (by omega)]; exact hj), cut_at hi (by omega), cut_at (by omega) (by omega)]
 ·rw [List.getElem?_append_right (by rw [cut_len (by omega)]; omega), cut_len (by omega), List.getElem?_map]
  by_cases hj2 : s + j ≤ i
  ·rw [cut_at hi hj2, cut_at hi (by omega), show t + 1 + (j - (t + 1 - s)) = s + j by omega, Option.map_map]
   congr 1
   funext n
   rw [Function.comp_apply, shift_shift]
   congr 1
   omega
  ·rw [List.getElem?_eq_none (by rw [cut_len hi]; omega), List.getElem?_eq_none (by rw [cut_len hi]; omega)]
   rfl
theorem cut_one {l : List Nd} {i : Nat} {n : Nd} (hn : l[i]? = some n) : cutT l i i = [shiftNd (-(i : Int)) n] := by
 have hi := (List.getElem?_eq_some_iff.1 hn).1
 apply List.ext_getElem?
 intro j
 cases j with
 | zero => rw [cut_at hi (by omega), Nat.add_zero, hn]; rfl
 | succ j =>
  rw [List.getElem?_eq_none (by rw [cut_len hi]; omega)]
  rfl
theorem cut_whole {l : List Nd} (h : 0 < l.length) : cutT l 0 (l.length - 1) = l := by
 unfold cutT
 rw [List.drop_zero, List.take_of_length_le (by omega)]
 show l.map (shiftNd 0) = l
 rw [show (shiftNd 0) = id from funext shift_zero, List.map_id]
def Over (l : List Nd) (m i : Nat) (n : Nd) (st : List Nat) : Prop :=
 (st = [] ∧ m = i ∧ cutT l m i = overL n [] [] ∧ startL l i = m) ∨
 (∃ t, st = [t] ∧ Good l m t ∧ t + 1 = i ∧ cutT l m i = overL n (cutT l m t) [] ∧ startL l i = m) ∨
 (∃ t u, st = [t, u] ∧ Good l m t ∧ Good l (t + 1) u ∧ u + 1 = i ∧ cutT l m i = overL n (cutT l m t) (cutT l (t + 1) u) ∧ startL l i = m)
theorem kidc_le (k : Int) : kidc k ≤ 2 := by
 unfold kidc
 split
 ·omega
 ·split <;> omega
theorem good_over {l : List Nd} (hb : ∀ (i : Nat) (n : Nd), l[i]? = some n → ∀ k ∈ n.kids, 0 ≤ k ∧ k < (i : Int)) {m i : Nat} {n : Nd} {st : List Nat} (hn : l[i]? = some n) (ht : Tiles l m st i) (hk : n.kids = zints st) (hl : st.length = kidc n.kind) : Over l m i n st := by
 have hi := (List.getElem?_eq_some_iff.1 hn).1
 have h2 := kidc_le n.kind
 match st, ht, hk, hl with
 | [], ht, hk, hl =>
  have e : m = i := ht
  subst e
  refine Or.inl ⟨rfl, rfl, ?_, start_leaf hn hk⟩
  rw [cut_one hn]
  show [({ n with kids := n.kids.map _ } : Nd)] = [{ n with kids := [] }]
  rw [show n.kids = [] from hk]
  rfl
 | [t], ht, hk, hl =>
  obtain ⟨hg, he⟩ := ht
  have he' : t + 1 = i := he
  refine Or.inr (Or.inl ⟨t, rfl, hg, he', ?_, ?_⟩)
  ·have hcl := cut_len (l := l) (s := m) (e := t) hg.2.1
   have hg1 := hg.1
   rw [cut_split hg.1 (by omega) hi, show t + 1 = i from he', cut_one hn]
   unfold overL
   rw [if_neg (fun e => by rw [e] at hcl; simp at hcl; omega), if_pos rfl]
   simp only [List.map_nil, List.append_nil, List.map_cons]
   rw [shift_shift]
   congr 2
   unfold shiftNd
   rw [show n.kids = [(t : Int)] from hk, hcl]
   simp only [List.map_cons, List.map_nil, Nd.mk.injEq, true_and, List.cons.injEq, and_true]
   omega
  ·rw [start_kids hb hn (ks := []) hk]; exact hg.2.2.2
 | [t, u], ht, hk, hl =>
  obtain ⟨hg, hg2, he⟩ := ht
  have he' : u + 1 = i := he
  refine Or.inr (Or.inr ⟨t, u, rfl, hg, hg2, he', ?_, ?_⟩)
  ·have hcl := cut_len (l := l) (s := m) (e := t) hg.2.1
   have hcl2 := cut_len (l := l) (s := t + 1) (e := u) hg2.2.1
   have hg1 := hg.1
   have hg21 := hg2.1
   rw [cut_split hg.1 (by omega) hi, cut_split hg2.1 (by omega) hi, show u + 1 = i from he', cut_one hn, over2_eq (by omega) (by omega), List.map_append, List.append_assoc, hcl, hcl2]
   congr 2
   simp only [List.map_cons, List.map_nil]
   rw [shift_shift, shift_shift]
   congr 1
   unfold shiftNd
   rw [show n.kids = [(t : Int), (u : Int)] from hk]
   simp only [List.map_cons, List.map_nil, Nd.mk.injEq, true_and, List.cons.injEq, and_true]
   omega
  ·rw [start_kids hb hn (ks := [(u : Int)]) hk]; exact hg.2.2.2
 | _ :: _ :: _ :: _, ht, hk, hl => simp at hl; omega
theorem over_may {l : List Nd} {m i : Nat} {n : Nd} {st : List Nat} (h : Over l m i n st) (hk : n.kids = zints st) (hl : st.length = kidc n.kind) (hf : fieldsB n = true) (hks : kidsB l n = true) : mayL (cutT l m i) = true := by
 unfold kidsB at hks
 rw [List.all_eq_true, hk] at hks
 rcases h with ⟨rfl, rfl, e, -⟩ | ⟨t, rfl, hg, -, e, -⟩ | ⟨t, u, rfl, hg, hg2, -, e, -⟩
 ·rw [e]; exact may_over0 hl.symm hf
 ·rw [e]
  have h1 := hks (t : Int) (by simp [zints])
  exact may_over1 hl.symm hf hg.2.2.1 (by rw [cut_lastKind hg.2.1 hg.1]; simpa using h1)
 ·rw [e]
  have h1 := hks (t : Int) (by simp [zints])
  have h2 := hks (u : Int) (by simp [zints])
  exact may_over2 hl.symm hf hg.2.2.1 hg2.2.2.1 (by rw [cut_lastKind hg.2.1 hg.1]; simpa using h1) (by rw [cut_lastKind hg2.2.1 hg2.1]; simpa using h2)
theorem kids_ahead {l : List Nd} (h : mayL l = true) : ∀ (i : Nat) (n : Nd), l[i]? = some n → ∀ k ∈ n.kids, 0 ≤ k ∧ k < (i : Int) := fun _ _ hn => may_kids h hn
theorem tiles_upTo {l : List Nd} (h : mayL l = true) : ∀ (i : Nat) (st : List Nat), i ≤ l.length → mayUpTo l i = some st → Tiles l 0 st i := by
 intro i
 induction i with
 | zero => intro st _ hs; cases hs; rfl
 | succ i ih =>
  intro st' hi hs
  obtain ⟨st, n, hu, hn, ⟨c1, c2, c3, c4⟩, rfl⟩ := upTo_succ hs
  have hT := ih st (by omega) hu
  have hsp : st.take (st.length - kidc n.kind) ++ st.drop (st.length - kidc n.kind) = st := List.take_append_drop _ _
  rw [← hsp, tiles_append] at hT
  obtain ⟨m, hT1, hT2⟩ := hT
  have hz : n.kids = zints (st.drop (st.length - kidc n.kind)) := by rw [c2]; unfold zints; rw [List.map_drop]
  have hl : (st.drop (st.length - kidc n.kind)).length = kidc n.kind := by rw [List.length_drop]; omega
  have hO := good_over (kids_ahead h) hn hT2 hz hl
  have hM := over_may hO hz hl c3 c4
  rw [tiles_append]
  refine ⟨m, hT1, ⟨?_, by omega, hM, ?_⟩, rfl⟩
  ·rcases hO with ⟨-, rfl, -, -⟩ | ⟨t, -, hg, e, -, -⟩ | ⟨t, u, -, hg, hg2, e, -, -⟩
   ·exact Nat.le_refl _
   ·have := hg.1; omega
   ·have := hg.1; have := hg2.1; omega
  ·rcases hO with ⟨-, -, -, e⟩ | ⟨t, -, -, -, -, e⟩ | ⟨t, u, -, -, -, -, -, e⟩ <;> exact e
theorem part_good {l : List Nd} (h : mayL l = true) {i : Nat} (hi : i < l.length) : Good l (startL l i) i := by
 obtain ⟨st, hst⟩ := upTo_some (l := l) (i := i + 1) (by obtain ⟨s, h1, -⟩ := may_all h; rw [h1]; rfl) hi
 have hT := tiles_upTo h (i + 1) st hi hst
 obtain ⟨ts, rfl⟩ := upTo_last hst
 rw [tiles_append] at hT
 obtain ⟨m, -, hg, -⟩ := hT
 have := hg.2.2.2
 rw [this]; exact hg
theorem part_eq {l : List Nd} (h : mayL l = true) {i : Nat} (hi : i < l.length) : partL l (i : Int) = cutT l (startL l i) i := by
 unfold partL cutT
 rw [if_pos ⟨h, by omega, by omega⟩, Int.toNat_natCast]
theorem may_apart {l : List Nd} (h : mayL l = true) : ∃ n st, l.getLast? = some n ∧ n.kids = zints st ∧ st.length = kidc n.kind ∧ fieldsB n = true ∧ kidsB l n = true ∧ (∀ t ∈ st, t + 1 < l.length) ∧
  ((st = [] ∧ l = overL n [] []) ∨ (∃ t : Nat, st = [t] ∧ l = overL n (partL l (t : Int)) []) ∨ (∃ t u : Nat, st = [t, u] ∧ l = overL n (partL l (t : Int)) (partL l (u : Int)))) := by
 have h0 := may_ne h
 have htop := may_top h
 obtain ⟨m, hm⟩ : ∃ m, l.length = m + 1 := ⟨l.length - 1, by omega⟩
 rw [hm] at htop
 obtain ⟨st, n, hu, hn, ⟨c1, c2, c3, c4⟩, e⟩ := upTo_succ htop
 have hT := tiles_upTo h m st (by omega) hu
 have he : st.take (st.length - kidc n.kind) = [] := by
  have := congrArg List.length e
  apply List.eq_nil_of_length_eq_zero
  simp at this ⊢
  omega
 have hsp : st.take (st.length - kidc n.kind) ++ st.drop (st.length - kidc n.kind) = st := List.take_append_drop _ _
 rw [he, List.nil_append] at hsp
 have hl : st.length = kidc n.kind := by rw [← hsp, List.length_drop]; omega
 have hz : n.kids = zints st := by rw [c2]; unfold zints; rw [← List.map_drop, hsp]
 have hO := good_over (kids_ahead h) hn hT hz hl
 have hlt := (upTo_lt l m st hu).1
 have hw := cut_whole h0
 rw [show l.length - 1 = m by omega] at hw
 refine ⟨n, st, by rw [List.getLast?_eq_getElem?, hm]; exact hn, hz, hl, c3, c4, fun t ht => by have := hlt t ht; omega, ?_⟩
 rcases hO with ⟨rfl, -, e, -⟩ | ⟨t, rfl, hg, -, e, -⟩ | ⟨t, u, rfl, hg, hg2, -, e, -⟩
 ·exact Or.inl ⟨rfl, by rw [← e, hw]⟩
 ·exact Or.inr (Or.inl ⟨t, rfl, by rw [part_eq h hg.2.1, hg.2.2.2, ← e, hw]⟩)
 ·exact Or.inr (Or.inr ⟨t, u, rfl, by rw [part_eq h hg.2.1, hg.2.2.2, part_eq h hg2.2.1, hg2.2.2.2, ← e, hw]⟩)
theorem reg_last {l : List Nd} (h : mayL l = true) : regL l = regKind (lastKind l) := by
 obtain ⟨n, st, h1, -, -, h4, -⟩ := may_apart h
 unfold regL
 rw [h, Bool.true_and]
 unfold lastKind
 rw [h1, Option.map_some, Option.getD_some]
 unfold fieldsB at h4
 rw [Bool.and_eq_true, kinds_range] at h4
 have := h4.1
 unfold formKind regKind
 by_cases h2 : n.kind ≤ 17
 ·rw [decide_eq_true (by omega), decide_eq_false (by omega)]; rfl
 ·rw [decide_eq_false (by omega), decide_eq_true (by omega)]; rfl
end Go.Proofs.YtdbgaccnejffpaaGreatDoor.Tree
