/-
  A formula's text is read as the formula, node by node. By an AI agent.
-/
import Derived.Test.YthcbgneoonekkaaGreatDoorGShowBack35
namespace Go.Proofs.YthcbgneoonekkaaGreatDoor.Show
open Go.Proofs.YthcbgneoonekkaaGreatDoor.Tree Go.Proofs.YthcbgneoonekkaaGreatDoor.Lex Go.Proofs.YthcbgneoonekkaaGreatDoor.Parse

theorem take_next {l : List Nd} {i : Nat} {n : Nd} (h : l[i]? = some n) : l.take (i + 1) = l.take i ++ [n] := by
  obtain ⟨hi, rfl⟩ := List.getElem?_eq_some_iff.1 h
  exact List.take_succ_eq_append_getElem hi
theorem take_len {l : List Nd} {i : Nat} {n : Nd} (h : l[i]? = some n) : (l.take i).length = i := by
  have hi := (List.getElem?_eq_some_iff.1 h).1
  rw [List.length_take]; omega
/-- A node that is no name is its kind, its interval, its kids. -/
theorem node_eq {n : Nd} {k : Nat} (hf : fieldsB n = true) (hk : n.kind = (k : Int)) (h3 : k ≠ 3) : n = nd1 k n.lo n.hi n.kids := by
  obtain ⟨kd, nm, lo, hi, ks⟩ := n
  have hk : kd = (k : Int) := hk
  subst hk
  unfold fieldsB nameOkB at hf
  rw [Bool.and_eq_true, Bool.and_eq_true, if_neg (by show ¬ (k : Int) = 3; omega), decide_eq_true_eq] at hf
  have e : nm = ⟨#[]⟩ := by
    apply ByteArray.ext
    apply Array.toList_inj.1
    exact hf.2.1
  subst e
  rfl
theorem node_span {n : Nd} (hf : fieldsB n = true) : if timed n.kind = true then Ival.mayS n.lo n.hi = true else n.lo = 0 ∧ n.hi = 0 := by
  unfold fieldsB okSpan at hf
  rw [Bool.and_eq_true, Bool.and_eq_true] at hf
  have := hf.2.2
  split at this
  · next h => rw [if_pos h]; exact this
  · next h => rw [if_neg h]; simpa using this
/-- How a node's interval is read behind its word. -/
def SpanR (k : Nat) (lo hi : Int) (sp : List Tk) : Prop := ∀ rest : List Tk, Parse.textOf rest ≠ [91] → spanM k (sp ++ rest) = .ok (lo, hi, rest)
theorem span_plain {k : Nat} (hk : k < 8 ∨ 17 < k) : SpanR k 0 0 [] := fun rest _ => by
  unfold spanM
  rw [if_pos hk]
  rfl

section
variable {l : List Nd} {i : Nat} {n : Nd}
theorem own_leaf {g : Bool} {kk : Nat} {tx bs : List UInt8} (hn : l[i]? = some n) (hs : startL l i = i) (hl : leafOf g tx = some n) (hg : regKind n.kind = g) (hr : if g = true then 4 ≤ rank n.kind else 5 ≤ rank n.kind) (htx : tx ≠ [91]) (h : LexTo bs (Tok kk tx 0)) : LexTo bs (Own l i n) :=
  h.mono fun ts ⟨p, e⟩ => by
    subst e
    refine ⟨?_, ⟨_, _, rfl, htx⟩⟩
    rw [hg]
    refine fit_o (fun d made rest hd hm => ?_) hr
    have e1 : sz l i = 1 := by unfold sz; omega
    rw [e1] at hm ⊢
    rw [hs, take_next hn]
    have := D.leaf (g := g) (d := d) (s := ⟨(⟨kk, tx, 0, p⟩ : Tk) :: rest, made, l.take i⟩) hl (by show made ≠ 200; omega)
    have e2 : ((l.take i).length : Int) = (i : Int) := by rw [take_len hn]
    show D _ _ _ (.ok ⟨rest, made + 1, l.take i ++ [n]⟩ (i : Int))
    rw [← e2]
    exact this
/-- An operator ahead of its operand. -/
theorem own_pre {g : Bool} {k kk t p δ : Nat} {tx : List UInt8} {sp ks : List Tk} (hn : l[i]? = some n) (hf : fieldsB n = true) (hk : n.kind = (k : Int)) (h3 : k ≠ 3) (hkids : n.kids = [(t : Int)]) (hst : startL l i = startL l t) (hle : startL l t ≤ t) (hti : t + 1 = i)
    (hp : preOf g tx = k) (hsp : SpanR k n.lo n.hi sp) (hO : O l false δ t ks) (hd : δ + 1 ≤ nst l i) (hh : Head ks) : O l g (nst l i) i (⟨kk, tx, 0, p⟩ :: (sp ++ ks)) := fun d made rest hdd hm => by
  have e1 : sz l i = sz l t + 1 := by unfold sz; omega
  rw [e1] at hm ⊢
  have h0 : k ≠ 0 := by
    intro e
    subst e
    unfold fieldsB at hf
    rw [Bool.and_eq_true, kinds_range] at hf
    omega
  have h1 := hO (d + 1) (made + 1) rest (by omega) (by omega)
  have e2 : (⟨kk, tx, 0, p⟩ :: (sp ++ ks)) ++ rest = (⟨kk, tx, 0, p⟩ : Tk) :: (sp ++ (ks ++ rest)) := by simp
  rw [e2, hst]
  have h2 := D.pre (g := g) (d := d) (s := ⟨(⟨kk, tx, 0, p⟩ : Tk) :: (sp ++ (ks ++ rest)), made, l.take (startL l t)⟩) (s1 := ⟨rest, made + 1 + sz l t, l.take (t + 1)⟩) (a := (t : Int)) (lo := n.lo) (hi := n.hi) (r := ks ++ rest)
    (by show preOf g tx ≠ 0; rw [hp]; exact h0) (by omega) (by show made ≠ 200; omega) (by show spanM (preOf g tx) (sp ++ (ks ++ rest)) = _; rw [hp]; exact hsp _ hh.ne) h1
  have e3 : l.take (i + 1) = l.take (t + 1) ++ [nd1 (preOf g tx) n.lo n.hi [(t : Int)]] := by
    rw [take_next hn, ← hti, hp, ← hkids, ← node_eq hf hk h3]
  have e4 : ((l.take (t + 1)).length : Int) = (i : Int) := by rw [hti, take_len hn]
  rw [e3, ← e4, show made + (sz l t + 1) = made + 1 + sz l t by omega]
  exact h2
/-- back and fore. -/
theorem own_br {k kk t p q q' δ : Nat} {tx : List UInt8} {sp ks : List Tk} (hn : l[i]? = some n) (hf : fieldsB n = true) (hk : n.kind = (k : Int)) (h3 : k ≠ 3) (hkids : n.kids = [(t : Int)]) (hst : startL l i = startL l t) (hle : startL l t ≤ t) (hti : t + 1 = i)
    (hp : braceOf false tx = k) (hsp : SpanR k n.lo n.hi sp) (hR : R l true δ 0 t ks) (hd : δ + 1 ≤ nst l i) : O l false (nst l i) i (⟨kk, tx, 0, p⟩ :: (sp ++ (⟨3, [123], 0, q⟩ :: (ks ++ [⟨3, [125], 0, q'⟩])))) := fun d made rest hdd hm => by
  have e1 : sz l i = sz l t + 1 := by unfold sz; omega
  rw [e1] at hm ⊢
  have h0 : k ≠ 0 := by
    intro e
    subst e
    unfold fieldsB at hf
    rw [Bool.and_eq_true, kinds_range] at hf
    omega
  have hno : NoOp true 0 ((⟨3, [125], 0, q'⟩ : Tk) :: rest) := ⟨fun L' _ _ => by
    show (if (betwK true [125]).2 = L' + 1 then (betwK true [125]).1 else 0) = 0
    have e : betwK true [125] = (0, 0) := by decide
    rw [e]; split <;> rfl, fun _ => by show ([125] : List UInt8) ≠ [42]; decide⟩
  have h1 := hR (d + 1) (made + 1) (⟨3, [125], 0, q'⟩ :: rest) (by omega) (by omega) hno
  have e2 : (⟨kk, tx, 0, p⟩ :: (sp ++ (⟨3, [123], 0, q⟩ :: (ks ++ [⟨3, [125], 0, q'⟩])))) ++ rest = (⟨kk, tx, 0, p⟩ : Tk) :: (sp ++ (⟨3, [123], 0, q⟩ :: (ks ++ (⟨3, [125], 0, q'⟩ :: rest)))) := by simp
  rw [e2, hst]
  have h2 := D.br (g := false) (d := d) (s := ⟨(⟨kk, tx, 0, p⟩ : Tk) :: (sp ++ (⟨3, [123], 0, q⟩ :: (ks ++ (⟨3, [125], 0, q'⟩ :: rest)))), made, l.take (startL l t)⟩) (s1 := ⟨⟨3, [125], 0, q'⟩ :: rest, made + 1 + sz l t, l.take (t + 1)⟩) (a := (t : Int)) (lo := n.lo) (hi := n.hi) (r := ⟨3, [123], 0, q⟩ :: (ks ++ (⟨3, [125], 0, q'⟩ :: rest)))
    (by show braceOf false tx ≠ 0; rw [hp]; exact h0) (by show made ≠ 200; omega) (by show spanM (braceOf false tx) (sp ++ _) = _; rw [hp]; exact hsp _ (by show ([123] : List UInt8) ≠ [91]; decide)) rfl (by omega) h1 rfl
  have e3 : l.take (i + 1) = l.take (t + 1) ++ [nd1 (braceOf false tx) n.lo n.hi [(t : Int)]] := by
    rw [take_next hn, ← hti, hp, ← hkids, ← node_eq hf hk h3]
  have e4 : ((l.take (t + 1)).length : Int) = (i : Int) := by rw [hti, take_len hn]
  rw [e3, ← e4, show made + (sz l t + 1) = made + 1 + sz l t by omega]
  exact h2
/-- A star. -/
theorem own_star {t p δ : Nat} {ks : List Tk} (hn : l[i]? = some n) (hf : fieldsB n = true) (hk : n.kind = ((22 : Nat) : Int)) (hlo : n.lo = 0 ∧ n.hi = 0) (hkids : n.kids = [(t : Int)]) (hst : startL l i = startL l t) (hle : startL l t ≤ t) (hti : t + 1 = i)
    (hS : S l δ t ks) (hd : δ ≤ nst l i) : S l (nst l i) i (ks ++ [⟨3, [42], 0, p⟩]) := fun d made rest o hdd hm ho => by
  have e1 : sz l i = sz l t + 1 := by unfold sz; omega
  rw [e1] at hm ho
  have e2 : (ks ++ [⟨3, [42], 0, p⟩]) ++ rest = ks ++ ((⟨3, [42], 0, p⟩ : Tk) :: rest) := by simp
  rw [e2, hst]
  refine hS d made (⟨3, [42], 0, p⟩ :: rest) o (by omega) (by omega) ?_
  have e3 : l.take (i + 1) = l.take (t + 1) ++ [nd1 22 0 0 [(t : Int)]] := by
    have := node_eq hf hk (by decide)
    rw [hlo.1, hlo.2, hkids] at this
    rw [take_next hn, ← hti, ← this]
  have e4 : ((l.take (t + 1)).length : Int) = (i : Int) := by rw [hti, take_len hn]
  rw [e3, ← e4, show made + (sz l t + 1) = made + sz l t + 1 by omega] at ho
  exact D.starsGo (s := ⟨(⟨3, [42], 0, p⟩ : Tk) :: rest, made + sz l t, l.take (t + 1)⟩) rfl (by show made + sz l t ≠ 200; omega) ho
/-- A sign or a word between two operands. -/
theorem own_two {g : Bool} {k kk t u p δ δ' L : Nat} {tx : List UInt8} {sp ks us : List Tk} (hn : l[i]? = some n) (hf : fieldsB n = true) (hk : n.kind = (k : Int)) (h3 : k ≠ 3) (hkids : n.kids = [(t : Int), (u : Int)]) (hst : startL l i = startL l t) (hle : startL l t ≤ t) (hsu : startL l u = t + 1) (htu : t + 1 ≤ u) (hui : u + 1 = i)
    (_hL : L < lvl g) (hb : betwK g tx = (k, L + 1)) (hx : tx ≠ [42]) (hsp : SpanR k n.lo n.hi sp) (hQ : Q l g δ L t ks) (hR : R l g δ' (L + 1) u us) (hd : δ ≤ nst l i) (hd' : δ' ≤ nst l i) (hh : Head us) : Q l g (nst l i) L i (ks ++ (⟨kk, tx, 0, p⟩ :: (sp ++ us))) := fun d made rest o hdd hm hno ho => by
  have e1 : sz l i = sz l t + sz l u + 1 := by unfold sz; omega
  rw [e1] at hm ho
  have h0 : k ≠ 0 := by
    intro e
    subst e
    unfold fieldsB at hf
    rw [Bool.and_eq_true, kinds_range] at hf
    omega
  have e2 : (ks ++ (⟨kk, tx, 0, p⟩ :: (sp ++ us))) ++ rest = ks ++ ((⟨kk, tx, 0, p⟩ : Tk) :: (sp ++ (us ++ rest))) := by simp
  have hop : opOf g L tx = k := by unfold Parse.opOf; rw [hb, if_pos rfl]
  rw [e2, hst]
  refine hQ d made (⟨kk, tx, 0, p⟩ :: (sp ++ (us ++ rest))) o (by omega) (by omega) ⟨fun L' h1 _ => by
    show opOf g L' tx = 0
    unfold Parse.opOf
    rw [hb, if_neg (by show ¬ L + 1 = L' + 1; omega)], fun _ => hx⟩ ?_
  have h1 := hR d (made + sz l t + 1) rest (by omega) (by omega) hno
  rw [hsu] at h1
  have e3 : l.take (i + 1) = l.take (u + 1) ++ [nd1 (opOf g L tx) n.lo n.hi [(t : Int), (u : Int)]] := by
    rw [take_next hn, ← hui, hop, ← hkids, ← node_eq hf hk h3]
  have e4 : ((l.take (u + 1)).length : Int) = (i : Int) := by rw [hui, take_len hn]
  rw [e3, ← e4, show made + (sz l t + sz l u + 1) = made + sz l t + 1 + sz l u by omega] at ho
  exact D.opsGo (s := ⟨(⟨kk, tx, 0, p⟩ : Tk) :: (sp ++ (us ++ rest)), made + sz l t, l.take (t + 1)⟩) (s2 := ⟨rest, made + sz l t + 1 + sz l u, l.take (u + 1)⟩) (r := us ++ rest) (by show opOf g L tx ≠ 0; rw [hop]; exact h0) (by show made + sz l t ≠ 200; omega) (by show spanM (opOf g L tx) (sp ++ (us ++ rest)) = _; rw [hop]; exact hsp _ hh.ne) h1 ho
end
end Go.Proofs.YthcbgneoonekkaaGreatDoor.Show
