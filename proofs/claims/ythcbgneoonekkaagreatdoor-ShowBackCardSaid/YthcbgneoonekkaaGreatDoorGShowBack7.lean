/-
  strconv.Itoa, for every int, by the shelf's contract; its table in its variable. By an AI agent.
  The walk of the reference's SpanText. By an AI agent.
  Formulas as texts, in plain lists. By an AI agent.
-/
import Derived.Test.YthcbgneoonekkaaGreatDoorGShowBack6
import Derived.Test.YthcbgneoonekkaaGreatDoorChecked
import Derived.Lib.AppendIntMem
import Derived.Lib.ItoaLen
import Derived.Below
import Derived.WalkKit
import Derived.Test.YthcbgneoonekkaaGreatDoorGShowBack2
import Derived.RegionTactic
import Derived.Deep.RegionWith
import Derived.BigRegion
import Derived.Test.YthcbgneoonekkaaGreatDoorGShowBack5
namespace Go.Proofs.YthcbgneoonekkaaGreatDoor.Itoa
open Go.RowKit Go.Sort

/-- The table of internal/strconv, in its variable. -/
def Tab10 (w : World) : Prop := Lib.TabIs Tryz.prog w "internal/strconv.uint64pow10" .u64 Lib.pow10Tab
theorem Tab10.later {w w' : World} (h : Tab10 w) (hb : Below w.heap.size w w') : Tab10 w' := Lib.tabBelow_of_tabIs h w' hb
/-- A number as it is written. -/
def dec (n : Int) : ByteArray := ⟨(Lib.itoa n).toArray⟩
theorem below_grow (w : World) (q : Nat) (os : Array Obj) : Below w.heap.size w (grow (w.drewN q) os) :=
  ⟨rfl, rfl, rfl, by simp [grow], fun k hk => by
    show (w.heap ++ os)[k]? = _
    rw [Array.getElem?_append_left hk]⟩
theorem itoa (n : Int) (w : World) (h : -9223372036854775808 ≤ n ∧ n ≤ 9223372036854775807) (hT : Tab10 w) :
    Calls Tryz.prog 84 #[.int .i64 n] w fun e w' => e = .returned (.string (dec n)) ∧ Below w.heap.size w w' :=
  (Tryz.strconv_Itoa n h.1 h.2 w hT).mono fun e w' ⟨h1, q, os, h2⟩ => ⟨h1, by rw [h2]; exact below_grow w q os⟩
theorem dec_size (n : Int) (h : -9223372036854775808 ≤ n ∧ n ≤ 9223372036854775807) : (dec n).size ≤ 21 := by
  have := Lib.itoa_length_le n h.1 h.2
  simpa [dec, ByteArray.size] using this
end Go.Proofs.YthcbgneoonekkaaGreatDoor.Itoa

namespace Go.Proofs.YthcbgneoonekkaaGreatDoor.Ival
open Go.RowKit Go.Proofs.YthcbgneoonekkaaGreatDoor.Itoa

/-- A span as it is written. -/
def textS (lo hi : Int) : ByteArray :=
  if mayS lo hi = true then (if hi = -1 then { data := #[91] } ++ dec lo ++ { data := #[44, 42, 93] } else { data := #[91] } ++ dec lo ++ { data := #[44] } ++ dec hi ++ { data := #[93] }) else { data := #[] }

end Go.Proofs.YthcbgneoonekkaaGreatDoor.Ival

namespace Go.Proofs.YthcbgneoonekkaaGreatDoor.Ival
open Go.Proofs.YthcbgneoonekkaaGreatDoor.Itoa
theorem textS_size (lo hi : Int) : (textS lo hi).data.toList.length ≤ 45 := by
  have hlen : ∀ s : ByteArray, s.data.toList.length = s.size := fun s => Array.length_toList
  rw [hlen]
  unfold textS
  split
  · next h =>
    unfold mayS at h
    rw [decide_eq_true_eq] at h
    have h1 := dec_size lo (by omega)
    split
    · simp only [ByteArray.size_append]
      have e1 : (ByteArray.mk #[91]).size = 1 := rfl
      have e2 : (ByteArray.mk #[44, 42, 93]).size = 3 := rfl
      omega
    · have h2 := dec_size hi (by omega)
      simp only [ByteArray.size_append]
      have e1 : (ByteArray.mk #[91]).size = 1 := rfl
      have e2 : (ByteArray.mk #[44]).size = 1 := rfl
      have e3 : (ByteArray.mk #[93]).size = 1 := rfl
      omega
  · show 0 ≤ 45
    omega
end Go.Proofs.YthcbgneoonekkaaGreatDoor.Ival
namespace Go.Proofs.YthcbgneoonekkaaGreatDoor.Show
open Go.Proofs.YthcbgneoonekkaaGreatDoor.Tree

def rank (k : Int) : Int := if k = 7 ∨ k = 20 then 1 else if k = 6 ∨ k = 21 then 2 else if k = 5 ∨ k = 22 then 3 else if k = 14 ∨ k = 15 ∨ k = 18 ∨ k = 19 then 4 else if k = 4 ∨ (8 ≤ k ∧ k ≤ 13) then 5 else 6
/-- Does the w-th kid stand without brackets? -/
def bare (kind : Int) (w : Nat) (kid : Int) : Bool :=
  if arity kind = 2 then (decide (rank kind < rank kid) || (decide (w = 0) && decide (rank kid = rank kind)))
  else if kind = 16 ∨ kind = 17 then true else if kind = 22 then decide (3 ≤ rank kid) else decide (5 ≤ rank kid)
def words : List (List UInt8) := [[112, 114, 101, 118], [110, 101, 120, 116], [111, 110, 99, 101], [104, 105, 115, 116], [115, 111, 109, 101], [97, 108, 108], [115, 105, 110, 99, 101], [117, 110, 116, 105, 108], [98, 97, 99, 107], [102, 111, 114, 101]]
def sign (k : Int) : List UInt8 := if k = 5 then [38] else if k = 6 then [124] else if k = 7 then [45, 62] else if k = 20 then [43] else if k = 21 then [59] else []
def spanT (lo hi : Int) : List UInt8 := if lo = 0 ∧ hi = -1 then [] else (Ival.textS lo hi).data.toList
/-- What is said of a kind. -/
def word (n : Nd) : List UInt8 := if timed n.kind = true then words.getD (n.kind - 8).toNat [] ++ spanT n.lo n.hi else sign n.kind
/-- A kid's text. -/
def kidT (ts : List (List UInt8)) (l : List Nd) (n : Nd) (w : Nat) (k : Int) : List UInt8 :=
  if bare n.kind w (kindAt l k) = true then ts.getD k.toNat [] else [40] ++ ts.getD k.toNat [] ++ [41]
def kidsF (ts : List (List UInt8)) (l : List Nd) (n : Nd) : Nat → List Int → List (List UInt8)
  | _, [] => []
  | w, k :: ks => kidT ts l n w k :: kidsF ts l n (w + 1) ks
def kidsT (ts : List (List UInt8)) (l : List Nd) (n : Nd) : List (List UInt8) := kidsF ts l n 0 n.kids
def nodeT (n : Nd) (ks : List (List UInt8)) : List UInt8 :=
  if n.kind = 1 then [116, 114, 117, 101] else if n.kind = 2 then [102, 97, 108, 115, 101] else if n.kind = 3 then n.name.data.toList else if n.kind = 18 then [46]
  else if n.kind = 4 then [33] ++ ks.getD 0 [] else if n.kind = 19 then [63] ++ ks.getD 0 [] else if n.kind = 22 then ks.getD 0 [] ++ [42]
  else if n.kind = 16 ∨ n.kind = 17 then word n ++ [32, 123] ++ ks.getD 0 [] ++ [125]
  else if ks.length = 1 then word n ++ [32] ++ ks.getD 0 [] else ks.getD 0 [] ++ [32] ++ word n ++ [32] ++ ks.getD 1 []
/-- The texts of the first nodes, made one by one; l tells their kinds. -/
def textsF (l : List Nd) : List Nd → List (List UInt8) → List (List UInt8)
  | [], ts => ts
  | n :: r, ts => textsF l r (ts ++ [nodeT n (kidsT ts l n)])
def textsTo (l : List Nd) (k : Nat) : List (List UInt8) := textsF l (l.take k) []
def textL (l : List Nd) : List UInt8 := if mayL l = true then (textsTo l l.length).getD (l.length - 1) [] else []

theorem getD_left {α : Type} {a b : List α} {j : Nat} {d : α} (h : j < a.length) : (a ++ b).getD j d = a.getD j d := by
  rw [List.getD_eq_getElem?_getD, List.getD_eq_getElem?_getD, List.getElem?_append_left h]
theorem getD_last {α : Type} {a : List α} {x : α} {j : Nat} {d : α} (h : a.length = j) : (a ++ [x]).getD j d = x := by
  subst h
  rw [List.getD_eq_getElem?_getD, List.getElem?_append_right (Nat.le_refl _), Nat.sub_self]
  rfl
theorem textsF_append (l a b : List Nd) : ∀ ts, textsF l (a ++ b) ts = textsF l b (textsF l a ts) := by
  induction a with
  | nil => intro ts; rfl
  | cons n r ih => intro ts; exact ih _
theorem textsTo_succ {l : List Nd} {k : Nat} {n : Nd} (h : l[k]? = some n) : textsTo l (k + 1) = textsTo l k ++ [nodeT n (kidsT (textsTo l k) l n)] := by
  have hk := (List.getElem?_eq_some_iff.1 h).1
  unfold textsTo
  rw [List.take_succ_eq_append_getElem hk, textsF_append, (List.getElem?_eq_some_iff.1 h).2]
  rfl
theorem textsTo_len {l : List Nd} : ∀ {k : Nat}, k ≤ l.length → (textsTo l k).length = k
  | 0, _ => rfl
  | k + 1, h => by
    obtain ⟨n, hn⟩ : ∃ n, l[k]? = some n := ⟨_, List.getElem?_eq_getElem (by omega)⟩
    rw [textsTo_succ hn, List.length_append, textsTo_len (k := k) (by omega)]
    rfl
theorem textsTo_low {l : List Nd} {j : Nat} : ∀ {k : Nat}, j < k → k ≤ l.length → (textsTo l k).getD j [] = (textsTo l (j + 1)).getD j []
  | 0, h, _ => absurd h (Nat.not_lt_zero _)
  | k + 1, h, hk => by
    by_cases e : j = k
    · rw [e]
    · obtain ⟨n, hn⟩ : ∃ n, l[k]? = some n := ⟨_, List.getElem?_eq_getElem (by omega)⟩
      rw [textsTo_succ hn, getD_left (by rw [textsTo_len (by omega)]; omega)]
      exact textsTo_low (by omega) (by omega)
/-- The text of the node at i. -/
def txt (l : List Nd) (i : Nat) : List UInt8 := (textsTo l (i + 1)).getD i []
theorem texts_at {l : List Nd} {j k : Nat} (h : j < k) (hk : k ≤ l.length) : (textsTo l k).getD j [] = txt l j := textsTo_low h hk
def kidX (l : List Nd) (n : Nd) (w t : Nat) : List UInt8 := if bare n.kind w (kindAt l (t : Int)) = true then txt l t else [40] ++ txt l t ++ [41]
theorem kidT_at {l : List Nd} {n : Nd} {w t k : Nat} (h : t < k) (hk : k ≤ l.length) : kidT (textsTo l k) l n w (t : Int) = kidX l n w t := by
  unfold kidT kidX
  rw [Int.toNat_natCast, texts_at h hk]
theorem kidsF_snoc (ts : List (List UInt8)) (l : List Nd) (n : Nd) (k : Int) : ∀ (ks : List Int) (w : Nat), kidsF ts l n w (ks ++ [k]) = kidsF ts l n w ks ++ [kidT ts l n (w + ks.length) k]
  | [], w => by simp [kidsF]
  | x :: r, w => by
    rw [List.cons_append]
    show kidT ts l n w x :: kidsF ts l n (w + 1) (r ++ [k]) = kidT ts l n w x :: (kidsF ts l n (w + 1) r ++ [_])
    rw [kidsF_snoc ts l n k r (w + 1), List.length_cons, show w + 1 + r.length = w + (r.length + 1) by omega]
theorem kidsF_len (ts : List (List UInt8)) (l : List Nd) (n : Nd) : ∀ (ks : List Int) (w : Nat), (kidsF ts l n w ks).length = ks.length
  | [], _ => rfl
  | _ :: r, w => by rw [kidsF, List.length_cons, kidsF_len ts l n r (w + 1), List.length_cons]
theorem txt_node {l : List Nd} {i : Nat} {n : Nd} (h : l[i]? = some n) : txt l i = nodeT n (kidsT (textsTo l i) l n) := by
  have hi := (List.getElem?_eq_some_iff.1 h).1
  unfold txt
  rw [textsTo_succ h, getD_last (by rw [textsTo_len (by omega)])]
theorem textL_eq {l : List Nd} (h : mayL l = true) : textL l = txt l (l.length - 1) := by
  have h0 := may_ne h
  unfold textL txt
  rw [if_pos h, show l.length - 1 + 1 = l.length by omega]

/-- How a node of a list that may be stands over its kids. -/
theorem over_at {l : List Nd} (h : mayL l = true) {i : Nat} {n : Nd} (hn : l[i]? = some n) : ∃ st, n.kids = zints st ∧ st.length = kidc n.kind ∧ fieldsB n = true ∧ kidsB l n = true ∧ Over l (startL l i) i n st := by
  have hi := (List.getElem?_eq_some_iff.1 hn).1
  obtain ⟨st', hst⟩ := upTo_some (l := l) (i := i + 1) (by obtain ⟨s, h1, -⟩ := may_all h; rw [h1]; rfl) hi
  obtain ⟨st, n', hu, hn', ⟨c1, c2, c3, c4⟩, rfl⟩ := upTo_succ hst
  rw [hn] at hn'
  injection hn' with hn'
  subst hn'
  have hT := tiles_upTo h i st (by omega) hu
  have hsp : st.take (st.length - kidc n.kind) ++ st.drop (st.length - kidc n.kind) = st := List.take_append_drop _ _
  rw [← hsp, tiles_append] at hT
  obtain ⟨m, hT1, hT2⟩ := hT
  have hz : n.kids = zints (st.drop (st.length - kidc n.kind)) := by rw [c2]; unfold zints; rw [List.map_drop]
  have hl : (st.drop (st.length - kidc n.kind)).length = kidc n.kind := by rw [List.length_drop]; omega
  have hO := good_over (kids_ahead h) hn hT2 hz hl
  have hs : startL l i = m := by
    rcases hO with ⟨-, -, -, e⟩ | ⟨t, -, -, -, -, e⟩ | ⟨t, u, -, -, -, -, -, e⟩ <;> exact e
  exact ⟨_, hz, hl, c3, c4, by rw [hs]; exact hO⟩
/-- The kids of a node, by their number; their parts stand one behind the other. -/
theorem kids_at {l : List Nd} (h : mayL l = true) {i : Nat} {n : Nd} (hn : l[i]? = some n) : fieldsB n = true ∧ kidsB l n = true ∧
    ((n.kids = [] ∧ kidc n.kind = 0 ∧ startL l i = i) ∨
     (∃ t : Nat, n.kids = [(t : Int)] ∧ kidc n.kind = 1 ∧ startL l i = startL l t ∧ startL l t ≤ t ∧ t + 1 = i) ∨
     (∃ t u : Nat, n.kids = [(t : Int), (u : Int)] ∧ kidc n.kind = 2 ∧ startL l i = startL l t ∧ startL l t ≤ t ∧ startL l u = t + 1 ∧ t + 1 ≤ u ∧ u + 1 = i)) := by
  obtain ⟨st, h1, h2, h3, h4, hO⟩ := over_at h hn
  refine ⟨h3, h4, ?_⟩
  rcases hO with ⟨rfl, e, -, -⟩ | ⟨t, rfl, hg, e, -, -⟩ | ⟨t, u, rfl, hg, hg2, e, -, -⟩
  · exact Or.inl ⟨h1, h2.symm, e⟩
  · exact Or.inr (Or.inl ⟨t, h1, h2.symm, hg.2.2.2.symm, by rw [hg.2.2.2]; exact hg.1, e⟩)
  · exact Or.inr (Or.inr ⟨t, u, h1, h2.symm, hg.2.2.2.symm, by rw [hg.2.2.2]; exact hg.1, hg2.2.2.2, hg2.1, e⟩)
theorem start_le {l : List Nd} (h : mayL l = true) {i : Nat} (hi : i < l.length) : startL l i ≤ i := (part_good h hi).1

/-! ### how long they are -/
theorem span_len (lo hi : Int) : (spanT lo hi).length ≤ 45 := by
  unfold spanT
  split
  · exact Nat.zero_le _
  · have hsz := Ival.textS_size lo hi
    exact hsz
theorem word_len (n : Nd) : (word n).length ≤ 50 := by
  unfold word
  have := span_len n.lo n.hi
  split
  · rw [List.length_append]
    have : ∀ j, (words.getD j []).length ≤ 5 := by
      intro j
      by_cases hj : j < 10
      · have : ∀ j : Fin 10, (words.getD j.1 []).length ≤ 5 := by decide
        exact this ⟨j, hj⟩
      · rw [List.getD_eq_getElem?_getD, List.getElem?_eq_none (by show 10 ≤ j; omega)]; exact Nat.zero_le _
    have := this (n.kind - 8).toNat
    omega
  · unfold sign
    repeat' (first | (simp; done) | split)
theorem name_len {n : Nd} (h : fieldsB n = true) (h3 : n.kind = 3) : n.name.data.toList.length ≤ 16 := by
  unfold fieldsB nameOkB at h
  rw [Bool.and_eq_true, Bool.and_eq_true, if_pos h3] at h
  by_cases hl : n.name.data.toList.length = 0 ∨ 16 < n.name.data.toList.length
  · rw [Lex.name_not hl] at h; exact absurd h.2.1 (by decide)
  · omega
theorem kidX_len (l : List Nd) (n : Nd) (w t : Nat) : (kidX l n w t).length ≤ (txt l t).length + 2 := by
  unfold kidX
  split
  · omega
  · simp only [List.length_append, List.length_cons, List.length_nil]; omega
theorem txt_len {l : List Nd} (h : mayL l = true) : ∀ (i : Nat), i < l.length → (txt l i).length ≤ 64 * (i + 1 - startL l i) := by
  intro i
  induction i using Nat.strongRecOn with
  | ind i ih =>
    intro hi
    obtain ⟨n, hn⟩ : ∃ n, l[i]? = some n := ⟨_, List.getElem?_eq_getElem hi⟩
    obtain ⟨hf, -, hk⟩ := kids_at h hn
    have hw := word_len n
    have hnm := name_len hf
    rw [txt_node hn]
    have hb : ∀ k0 : List UInt8, (nodeT n [k0]).length ≤ 60 + k0.length := by
      intro k0
      unfold nodeT
      simp only [List.getD_cons_zero, List.getD_cons_succ, List.getD_nil, List.length_cons, List.length_nil]
      repeat' split
      all_goals first | (have := hnm (by assumption); omega) | (simp only [List.length_append, List.length_cons, List.length_nil]; omega)
    have hb2 : ∀ k0 k1 : List UInt8, (nodeT n [k0, k1]).length ≤ 60 + k0.length + k1.length := by
      intro k0 k1
      unfold nodeT
      simp only [List.getD_cons_zero, List.getD_cons_succ, List.length_cons, List.length_nil]
      repeat' split
      all_goals first | (have := hnm (by assumption); omega) | (simp only [List.length_append, List.length_cons, List.length_nil]; omega)
    have hb0 : (nodeT n []).length ≤ 60 := by
      unfold nodeT
      simp only [List.getD_nil, List.length_nil]
      repeat' split
      all_goals first | (have := hnm (by assumption); omega) | (simp only [List.length_append, List.length_cons, List.length_nil]; omega)
    rcases hk with ⟨e, -, hs⟩ | ⟨t, e, -, hs, hle, hti⟩ | ⟨t, u, e, -, hs, hle, hs2, htu, hui⟩
    · unfold kidsT
      rw [e]
      refine Nat.le_trans hb0 ?_
      rw [hs]; omega
    · unfold kidsT
      rw [e]
      show (nodeT n [kidT (textsTo l i) l n 0 (t : Int)]).length ≤ _
      rw [kidT_at (by omega) (by omega)]
      have h1 := hb (kidX l n 0 t)
      have h2 := kidX_len l n 0 t
      have h3 := ih t (by omega) (by omega)
      rw [hs]
      omega
    · unfold kidsT
      rw [e]
      show (nodeT n [kidT (textsTo l i) l n 0 (t : Int), kidT (textsTo l i) l n 1 (u : Int)]).length ≤ _
      rw [kidT_at (by omega) (by omega), kidT_at (by omega) (by omega)]
      have h1 := hb2 (kidX l n 0 t) (kidX l n 1 u)
      have h2 := kidX_len l n 0 t
      have h2' := kidX_len l n 1 u
      have h3 := ih t (by omega) (by omega)
      have h4 := ih u (by omega) (by omega)
      rw [hs2] at h4
      rw [hs]
      omega
theorem textL_len {l : List Nd} (h : mayL l = true) : (textL l).length ≤ 64 * l.length := by
  have h0 := may_ne h
  rw [textL_eq h]
  have := txt_len h (l.length - 1) (by omega)
  omega
end Go.Proofs.YthcbgneoonekkaaGreatDoor.Show
