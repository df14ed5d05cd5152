/-
  What is read of any text may be. By an AI agent.
-/
import Derived.Test.YthcbgneoonekkaaGreatDoorGShowBack38
namespace Go.Proofs.YthcbgneoonekkaaGreatDoor.Show
open Go.Proofs.YthcbgneoonekkaaGreatDoor.Tree Go.Proofs.YthcbgneoonekkaaGreatDoor.Lex Go.Proofs.YthcbgneoonekkaaGreatDoor.Parse

theorem span_may {k : Nat} {r : List Tk} {lo hi : Int} {q : List Tk} (hG : GoodT r) (h : spanM k r = .ok (lo, hi, q)) : GoodT q ∧ (if 8 ≤ k ∧ k ≤ 17 then Ival.mayS lo hi = true else lo = 0 ∧ hi = 0) := by
  unfold spanM at h
  split at h
  · next hk => cases h; exact ⟨hG, by rw [if_neg (by omega)]; exact ⟨rfl, rfl⟩⟩
  · next hk =>
    have hk : 8 ≤ k ∧ k ≤ 17 := by omega
    rw [if_pos hk]
    unfold Ival.mayS
    rw [decide_eq_true_eq]
    split at h
    · cases h; exact ⟨hG, by omega⟩
    · next h91 =>
      have h91 : Parse.textOf r = [91] := Decidable.byContradiction h91
      have g1 := hG.next (by rw [h91]; decide)
      simp only at h
      split at h
      · cases h
      · next hk1 =>
        have hk1 : kindOf r.tail = 2 := Decidable.byContradiction hk1
        have g2 := g1.tail (by rw [hk1]; decide)
        have n1 := g1.num
        split at h
        · cases h
        · next h44 =>
          have h44 : Parse.textOf r.tail.tail = [44] := Decidable.byContradiction h44
          have g3 := g2.next (by rw [h44]; decide)
          split at h
          · next h42 =>
            have g4 := g3.next (by rw [h42]; decide)
            split at h
            · cases h
            · next h93 =>
              have h93 : Parse.textOf r.tail.tail.tail.tail = [93] := Decidable.byContradiction h93
              cases h
              exact ⟨g4.next (by rw [h93]; decide), by omega⟩
          · split at h
            · cases h
            · next hk3 =>
              have n3 := g3.num
              have g4 := g3.tail (by omega)
              split at h
              · cases h
              · next h93 =>
                have h93 : Parse.textOf r.tail.tail.tail.tail = [93] := Decidable.byContradiction h93
                cases h
                exact ⟨g4.next (by rw [h93]; decide), by omega⟩

/-- The nodes so far may be, with these that are no kid. -/
def Up (l : List Nd) (st : List Nat) : Prop := mayUpTo l l.length = some st
theorem Up.push {l : List Nd} {st : List Nat} {n : Nd} (h : Up l st) (hk : kidc n.kind ≤ st.length) (hkids : n.kids = (zints st).drop (st.length - kidc n.kind)) (hf : fieldsB n = true) (hb : kidsB (l ++ [n]) n = true) : Up (l ++ [n]) (st.take (st.length - kidc n.kind) ++ [l.length]) := by
  have h1 : mayUpTo (l ++ [n]) l.length = some st := upTo_front h fun j hj => List.getElem?_append_left hj
  have hn : (l ++ [n])[l.length]? = some n := by rw [List.getElem?_append_right (Nat.le_refl _), Nat.sub_self]; rfl
  have := land_go h1 hn ⟨hk, hkids, hf, hb⟩
  unfold Up
  rw [List.length_append]
  exact this
theorem kind_front {l m : List Nd} {k : Nat} (h : k < l.length) : kindAt (l ++ m) (k : Int) = kindAt l (k : Int) := by
  unfold kindAt
  rw [Int.toNat_natCast, List.getElem?_append_left h]
theorem kind_last {l : List Nd} {n : Nd} : kindAt (l ++ [n]) ((l.length : Nat) : Int) = n.kind := by
  unfold kindAt
  rw [Int.toNat_natCast, List.getElem?_append_right (Nat.le_refl _), Nat.sub_self]
  rfl
theorem Up.leaf {l : List Nd} {st : List Nat} {n : Nd} (h : Up l st) (hc : kidc n.kind = 0) (hk : n.kids = []) (hf : fieldsB n = true) : Up (l ++ [n]) (st ++ [l.length]) := by
  have := h.push (n := n) (by omega) (by rw [hc, hk, Nat.sub_zero]; unfold zints; rw [← List.map_drop, List.drop_length]; rfl) hf (by unfold kidsB; rw [hk]; rfl)
  rw [hc, Nat.sub_zero, List.take_length] at this
  exact this
theorem Up.one {l : List Nd} {st : List Nat} {n : Nd} {a : Nat} (h : Up l (st ++ [a])) (ha : a < l.length) (hc : kidc n.kind = 1) (hk : n.kids = [(a : Int)]) (hf : fieldsB n = true) (hr : regKind (kindAt l (a : Int)) = takesReg n.kind) : Up (l ++ [n]) (st ++ [l.length]) := by
  have e : (st ++ [a]).length - 1 = st.length := by rw [List.length_append]; rfl
  have := h.push (n := n) (by rw [hc, List.length_append]; exact Nat.le_add_left _ _) (by rw [hc, hk, e]; unfold zints; rw [← List.map_drop, List.drop_append_of_le_length (Nat.le_refl _), List.drop_length]; rfl) hf (by unfold kidsB; rw [hk]; simp only [List.all_cons, List.all_nil, Bool.and_true]; rw [kind_front ha, hr]; exact beq_self_eq_true _)
  rw [hc, e, List.take_append_of_le_length (Nat.le_refl _), List.take_length] at this
  exact this
theorem Up.two {l : List Nd} {st : List Nat} {n : Nd} {a b : Nat} (h : Up l (st ++ [a] ++ [b])) (ha : a < l.length) (hb : b < l.length) (hc : kidc n.kind = 2) (hk : n.kids = [(a : Int), (b : Int)]) (hf : fieldsB n = true) (hr : regKind (kindAt l (a : Int)) = takesReg n.kind) (hr2 : regKind (kindAt l (b : Int)) = takesReg n.kind) : Up (l ++ [n]) (st ++ [l.length]) := by
  have e : (st ++ [a] ++ [b]).length - 2 = st.length := by rw [List.length_append, List.length_append]; rfl
  have e2 : st ++ [a] ++ [b] = st ++ [a, b] := by simp
  have := h.push (n := n) (by rw [hc, List.length_append, List.length_append]; show 2 ≤ st.length + 1 + 1; omega) (by rw [hc, hk, e, e2]; unfold zints; rw [← List.map_drop, List.drop_append_of_le_length (Nat.le_refl _), List.drop_length]; rfl) hf (by unfold kidsB; rw [hk]; simp only [List.all_cons, List.all_nil, Bool.and_true]; rw [kind_front ha, kind_front hb, hr, hr2]; simp)
  rw [hc, e, e2, List.take_append_of_le_length (Nat.le_refl _), List.take_length] at this
  exact this
theorem nd_fields {k : Nat} {lo hi : Int} {ks : List Int} (h1 : 1 ≤ k) (h2 : k ≤ 22) (h3 : k ≠ 3) (hs : if 8 ≤ k ∧ k ≤ 17 then Ival.mayS lo hi = true else lo = 0 ∧ hi = 0) : fieldsB (nd1 k lo hi ks) = true := by
  unfold fieldsB nameOkB okSpan
  rw [Bool.and_eq_true, Bool.and_eq_true, kinds_range]
  refine ⟨by show 1 ≤ (k : Int) ∧ (k : Int) ≤ 22; omega, ?_, ?_⟩
  · rw [if_neg (by show ¬ (k : Int) = 3; omega)]; rfl
  · show (if timed (k : Int) = true then Ival.mayS lo hi else decide (lo = 0 ∧ hi = 0)) = true
    by_cases h : 8 ≤ k ∧ k ≤ 17
    · rw [if_pos h] at hs
      rw [if_pos (by unfold timed; rw [decide_eq_true_eq]; omega)]; exact hs
    · rw [if_neg h] at hs
      rw [if_neg (by unfold timed; rw [decide_eq_true_eq]; omega), decide_eq_true_eq]; exact hs

/-- An operand of the kind g lies behind. -/
def Gives (g : Bool) (s s' : St) (a : Int) : Prop := ∀ st, Up s.nodes st → ∃ k : Nat, a = (k : Int) ∧ Up s'.nodes (st ++ [k]) ∧ k < s'.nodes.length ∧ regKind (kindAt s'.nodes a) = g
def MayP (nt : NT) (s : St) : Out → Prop
  | .bad _ _ => True
  | .ok s' a => GoodT s'.rest ∧ (∃ more, s'.nodes = s.nodes ++ more) ∧ match nt with
    | .row g _ => Gives g s s' a
    | .opd g => Gives g s s' a
    | .rep => Gives true s s' a
    | .ops g _ a0 => ∀ st (k0 : Nat), a0 = (k0 : Int) → Up s.nodes (st ++ [k0]) → k0 < s.nodes.length → regKind (kindAt s.nodes a0) = g → ∃ k : Nat, a = (k : Int) ∧ Up s'.nodes (st ++ [k]) ∧ k < s'.nodes.length ∧ regKind (kindAt s'.nodes a) = g
    | .stars a0 => ∀ st (k0 : Nat), a0 = (k0 : Int) → Up s.nodes (st ++ [k0]) → k0 < s.nodes.length → regKind (kindAt s.nodes a0) = true → ∃ k : Nat, a = (k : Int) ∧ Up s'.nodes (st ++ [k]) ∧ k < s'.nodes.length ∧ regKind (kindAt s'.nodes a) = true
theorem op_kinds {g : Bool} {l : Nat} {t : List UInt8} (h : opOf g l t ≠ 0) : t ≠ [] ∧ ((g = false ∧ (opOf g l t = 5 ∨ opOf g l t = 6 ∨ opOf g l t = 7 ∨ opOf g l t = 14 ∨ opOf g l t = 15)) ∨ (g = true ∧ (opOf g l t = 20 ∨ opOf g l t = 21))) := by
  unfold Parse.opOf at h ⊢
  split at h
  · next hb =>
    rw [if_pos hb]
    unfold betwK at h ⊢
    cases g
    · rw [if_neg (by decide)] at h ⊢
      repeat' (first | (split at h))
      all_goals first | (exact absurd rfl h) | (next hh => subst hh; exact ⟨by decide, by decide⟩) | (simp_all)
    · rw [if_pos rfl] at h ⊢
      repeat' (first | (split at h))
      all_goals first | (exact absurd rfl h) | (next hh => subst hh; exact ⟨by decide, by decide⟩) | (simp_all)
  · exact absurd rfl h
theorem pre_kinds {g : Bool} {t : List UInt8} (h : preOf g t ≠ 0) : t ≠ [] ∧ ((g = false ∧ (preOf g t = 4 ∨ (8 ≤ preOf g t ∧ preOf g t ≤ 13))) ∨ (g = true ∧ preOf g t = 19)) := by
  unfold preOf aheadK at h ⊢
  cases g
  · rw [if_neg (by decide)] at h ⊢
    repeat' (first | (split at h))
    all_goals first | (exact absurd rfl h) | (simp_all)
  · rw [if_pos rfl] at h ⊢
    split at h
    · next hh => subst hh; exact ⟨by decide, by decide⟩
    · exact absurd rfl h
theorem brace_kinds {g : Bool} {t : List UInt8} (h : braceOf g t ≠ 0) : t ≠ [] ∧ g = false ∧ (braceOf g t = 16 ∨ braceOf g t = 17) := by
  unfold braceOf at h ⊢
  cases g
  · rw [if_neg (by decide)] at h ⊢
    repeat' (first | (split at h))
    all_goals first | (exact absurd rfl h) | (simp_all)
  · exact absurd rfl h
theorem leaf_kinds {g : Bool} {t : List UInt8} {n : Nd} (h : leafOf g t = some n) : t ≠ [] ∧ kidc n.kind = 0 ∧ n.kids = [] ∧ fieldsB n = true ∧ regKind n.kind = g := by
  unfold leafOf at h
  cases g
  · rw [if_neg (by decide)] at h
    split at h
    · next e => cases h; subst e; exact ⟨by decide, rfl, rfl, by decide, rfl⟩
    · split at h
      · next e => cases h; subst e; exact ⟨by decide, rfl, rfl, by decide, rfl⟩
      · split at h
        · next hn =>
          cases h
          refine ⟨fun e => ?_, rfl, rfl, ?_, rfl⟩
          · rw [e] at hn; exact absurd hn (by decide)
          · unfold fieldsB nameOkB okSpan
            rw [if_pos rfl]
            show (true && (nameS t && _)) = true
            rw [hn]
            rfl
        · cases h
  · rw [if_pos rfl] at h
    split at h
    · next e => cases h; subst e; exact ⟨by decide, rfl, rfl, by decide, rfl⟩
    · cases h
theorem d_may {nt : NT} {d : Nat} {s : St} {o : Out} (h : D nt d s o) : GoodT s.rest → MayP nt s o := by
  induction h with
  | @rowUn d s o _ ih => intro hG; have := ih hG; cases o with
    | bad c p => trivial
    | ok s' a => exact this
  | @rowRep d s o _ ih => intro hG; have := ih hG; cases o with
    | bad c p => trivial
    | ok s' a => exact this
  | rowBad => intro _; trivial
  | @row g l d s s1 a o _ _ _ ih1 ih2 =>
    intro hG
    obtain ⟨g1, ⟨m1, e1⟩, h1⟩ := ih1 hG
    have h2 := ih2 g1
    cases o with
    | bad c p => trivial
    | ok s' b =>
      obtain ⟨g2, ⟨m2, e2⟩, h2⟩ := h2
      refine ⟨g2, ⟨m1 ++ m2, by rw [e2, e1, List.append_assoc]⟩, fun st hst => ?_⟩
      obtain ⟨k, rfl, k1, k2, k3⟩ := h1 st hst
      exact h2 st k rfl k1 k2 k3
  | opsEnd => intro hG; exact ⟨hG, ⟨[], by simp⟩, fun st k0 e h1 h2 h3 => ⟨k0, e, h1, h2, h3⟩⟩
  | opsMany => intro _; trivial
  | opsSpan => intro _; trivial
  | opsBad => intro _; trivial
  | @opsGo g l d s s2 a b lo hi r o hop _ hsp _ _ ih1 ih2 =>
    intro hG
    obtain ⟨hne, hkd⟩ := op_kinds hop
    obtain ⟨gr, hs⟩ := span_may (hG.next hne) hsp
    obtain ⟨g1, ⟨m1, e1⟩, h1⟩ := ih1 gr
    have h2 := ih2 g1
    have e1 : s2.nodes = s.nodes ++ m1 := e1
    cases o with
    | bad c p => trivial
    | ok s' b' =>
      obtain ⟨g2, ⟨m2, e2⟩, h2⟩ := h2
      have e2 : s'.nodes = (s2.nodes ++ [nd1 (opOf g l (Parse.textOf s.rest)) lo hi [a, b]]) ++ m2 := e2
      refine ⟨g2, ⟨m1 ++ [nd1 (opOf g l (Parse.textOf s.rest)) lo hi [a, b]] ++ m2, by rw [e2, e1]; simp⟩, ?_⟩
      intro st k0 ea hu hk0 hr0
      subst ea
      obtain ⟨kb, rfl, hub, hkb, hrb⟩ := h1 (st ++ [k0]) hu
      have hk0' : k0 < s2.nodes.length := by rw [e1, List.length_append]; omega
      have hr0' : regKind (kindAt s2.nodes (k0 : Int)) = g := by rw [e1, kind_front hk0]; exact hr0
      have hfl : fieldsB (nd1 (opOf g l (Parse.textOf s.rest)) lo hi [(k0 : Int), (kb : Int)]) = true := nd_fields (by omega) (by omega) (by omega) hs
      have hc : kidc ((opOf g l (Parse.textOf s.rest) : Nat) : Int) = 2 ∧ takesReg ((opOf g l (Parse.textOf s.rest) : Nat) : Int) = g ∧ regKind ((opOf g l (Parse.textOf s.rest) : Nat) : Int) = g := by
        rcases hkd with ⟨rfl, hx⟩ | ⟨rfl, hx⟩
        · rcases hx with hx | hx | hx | hx | hx <;> rw [hx] <;> decide
        · rcases hx with hx | hx <;> rw [hx] <;> decide
      have hup := hub.two (n := nd1 (opOf g l (Parse.textOf s.rest)) lo hi [(k0 : Int), (kb : Int)]) hk0' hkb hc.1 rfl hfl (hr0'.trans hc.2.1.symm) (hrb.trans hc.2.1.symm)
      exact h2 st s2.nodes.length rfl hup (by show s2.nodes.length < (s2.nodes ++ [_]).length; rw [List.length_append]; exact Nat.lt_succ_self _) (by show regKind (kindAt (s2.nodes ++ [_]) _) = g; rw [kind_last]; exact hc.2.2)
  | repBad => intro _; trivial
  | @rep d s s1 a o _ _ ih1 ih2 =>
    intro hG
    obtain ⟨g1, ⟨m1, e1⟩, h1⟩ := ih1 hG
    have h2 := ih2 g1
    cases o with
    | bad c p => trivial
    | ok s' b =>
      obtain ⟨g2, ⟨m2, e2⟩, h2⟩ := h2
      refine ⟨g2, ⟨m1 ++ m2, by rw [e2, e1, List.append_assoc]⟩, fun st hst => ?_⟩
      obtain ⟨k, rfl, k1, k2, k3⟩ := h1 st hst
      exact h2 st k rfl k1 k2 k3
  | starsEnd => intro hG; exact ⟨hG, ⟨[], by simp⟩, fun st k0 e h1 h2 h3 => ⟨k0, e, h1, h2, h3⟩⟩
  | starsMany => intro _; trivial
  | @starsGo d s a o ht _ _ ih =>
    intro hG
    have h2 := ih (hG.next (by rw [ht]; decide))
    cases o with
    | bad c p => trivial
    | ok s' b' =>
      obtain ⟨g2, ⟨m2, e2⟩, h2⟩ := h2
      have e2 : s'.nodes = (s.nodes ++ [nd1 22 0 0 [a]]) ++ m2 := e2
      refine ⟨g2, ⟨[nd1 22 0 0 [a]] ++ m2, by rw [e2]; simp⟩, ?_⟩
      intro st k0 ea hu hk0 hr0
      subst ea
      have hup := hu.one (n := nd1 22 0 0 [(k0 : Int)]) hk0 (show kidc (22 : Int) = 1 by decide) rfl (nd_fields (by decide) (by decide) (by decide) (by decide)) (hr0.trans (show true = takesReg (22 : Int) by decide))
      exact h2 st s.nodes.length rfl hup (by show s.nodes.length < (s.nodes ++ [_]).length; rw [List.length_append]; exact Nat.lt_succ_self _) (by show regKind (kindAt (s.nodes ++ [_]) _) = true; rw [kind_last]; show regKind (22 : Int) = true; decide)
  | leafMany => intro _; trivial
  | @leaf g d s n hl _ =>
    intro hG
    obtain ⟨hne, h1, h2, h3, h4⟩ := leaf_kinds hl
    refine ⟨hG.next hne, ⟨[n], rfl⟩, fun st hst => ⟨s.nodes.length, rfl, hst.leaf h1 h2 h3, by show s.nodes.length < (s.nodes ++ [_]).length; rw [List.length_append]; exact Nat.lt_succ_self _, by show regKind (kindAt (s.nodes ++ [_]) _) = g; rw [kind_last]; exact h4⟩⟩
  | parDeep => intro _; trivial
  | parBad => intro _; trivial
  | parMiss => intro _; trivial
  | @par g d s s1 a ht _ _ hc ih =>
    intro hG
    obtain ⟨g1, e1, h1⟩ := ih (hG.next (by rw [ht]; decide))
    exact ⟨g1.next (by rw [hc]; decide), e1, h1⟩
  | preDeep => intro _; trivial
  | preMany => intro _; trivial
  | preSpan => intro _; trivial
  | preBad => intro _; trivial
  | @pre g d s s1 a lo hi r hp _ _ hsp _ ih =>
    intro hG
    obtain ⟨hne, hkd⟩ := pre_kinds hp
    obtain ⟨gr, hs⟩ := span_may (hG.next hne) hsp
    obtain ⟨g1, ⟨m1, e1⟩, h1⟩ := ih gr
    have e1 : s1.nodes = s.nodes ++ m1 := e1
    refine ⟨g1, ⟨m1 ++ [nd1 (preOf g (Parse.textOf s.rest)) lo hi [a]], by show s1.nodes ++ [_] = _; rw [e1, List.append_assoc]⟩, fun st hst => ?_⟩
    obtain ⟨k, rfl, k1, k2, k3⟩ := h1 st hst
    have hc : kidc ((preOf g (Parse.textOf s.rest) : Nat) : Int) = 1 ∧ takesReg ((preOf g (Parse.textOf s.rest) : Nat) : Int) = false ∧ regKind ((preOf g (Parse.textOf s.rest) : Nat) : Int) = g := by
      rcases hkd with ⟨rfl, hx⟩ | ⟨rfl, hx⟩
      · have hx : preOf false (Parse.textOf s.rest) = 4 ∨ preOf false (Parse.textOf s.rest) = 8 ∨ preOf false (Parse.textOf s.rest) = 9 ∨ preOf false (Parse.textOf s.rest) = 10 ∨ preOf false (Parse.textOf s.rest) = 11 ∨ preOf false (Parse.textOf s.rest) = 12 ∨ preOf false (Parse.textOf s.rest) = 13 := by omega
        rcases hx with hx | hx | hx | hx | hx | hx | hx <;> rw [hx] <;> decide
      · rw [hx]; decide
    have hup := k1.one (n := nd1 (preOf g (Parse.textOf s.rest)) lo hi [(k : Int)]) k2 hc.1 rfl (nd_fields (by omega) (by omega) (by omega) hs) (k3.trans hc.2.1.symm)
    exact ⟨s1.nodes.length, rfl, hup, by show s1.nodes.length < (s1.nodes ++ [_]).length; rw [List.length_append]; exact Nat.lt_succ_self _, by show regKind (kindAt (s1.nodes ++ [_]) _) = g; rw [kind_last]; exact hc.2.2⟩
  | brMany => intro _; trivial
  | brSpan => intro _; trivial
  | brMiss => intro _; trivial
  | brDeep => intro _; trivial
  | brBad => intro _; trivial
  | brEnd => intro _; trivial
  | @br g d s s1 a lo hi r hp _ hsp hb _ _ hc2 ih =>
    intro hG
    obtain ⟨hne, rfl, hkd⟩ := brace_kinds hp
    obtain ⟨gr, hs⟩ := span_may (hG.next hne) hsp
    obtain ⟨g1, ⟨m1, e1⟩, h1⟩ := ih (gr.next (by rw [hb]; decide))
    have e1 : s1.nodes = s.nodes ++ m1 := e1
    refine ⟨g1.next (by rw [hc2]; decide), ⟨m1 ++ [nd1 (braceOf false (Parse.textOf s.rest)) lo hi [a]], by show s1.nodes ++ [_] = _; rw [e1, List.append_assoc]⟩, fun st hst => ?_⟩
    obtain ⟨k, rfl, k1, k2, k3⟩ := h1 st hst
    have hc : kidc ((braceOf false (Parse.textOf s.rest) : Nat) : Int) = 1 ∧ takesReg ((braceOf false (Parse.textOf s.rest) : Nat) : Int) = true ∧ regKind ((braceOf false (Parse.textOf s.rest) : Nat) : Int) = false := by
      rcases hkd with hx | hx <;> rw [hx] <;> decide
    have hup := k1.one (n := nd1 (braceOf false (Parse.textOf s.rest)) lo hi [(k : Int)]) k2 hc.1 rfl (nd_fields (by omega) (by omega) (by omega) hs) (k3.trans hc.2.1.symm)
    exact ⟨s1.nodes.length, rfl, hup, by show s1.nodes.length < (s1.nodes ++ [_]).length; rw [List.length_append]; exact Nat.lt_succ_self _, by show regKind (kindAt (s1.nodes ++ [_]) _) = false; rw [kind_last]; exact hc.2.2⟩
  | none => intro _; trivial

/-! ### the grammar says something of each text -/
theorem tail_lt {l : List Tk} (h : Parse.textOf l ≠ []) : l.tail.length < l.length := by
  cases l with
  | nil => exact absurd rfl h
  | cons t r => exact Nat.lt_succ_self _
def LessP (nt : NT) (s : St) : Out → Prop
  | .bad _ _ => True
  | .ok s' _ => match nt with
    | .ops _ _ _ => s'.rest.length ≤ s.rest.length
    | .stars _ => s'.rest.length ≤ s.rest.length
    | _ => s'.rest.length < s.rest.length
theorem d_less {nt : NT} {d : Nat} {s : St} {o : Out} (h : D nt d s o) : LessP nt s o := by
  induction h with
  | @rowUn d s o _ ih => cases o with
    | bad c p => trivial
    | ok s' a => exact ih
  | @rowRep d s o _ ih => cases o with
    | bad c p => trivial
    | ok s' a => exact ih
  | rowBad => trivial
  | @row g l d s s1 a o _ _ _ ih1 ih2 => cases o with
    | bad c p => trivial
    | ok s' b => exact Nat.lt_of_le_of_lt (show s'.rest.length ≤ s1.rest.length from ih2) ih1
  | opsEnd => exact Nat.le_refl _
  | opsMany => trivial
  | opsSpan => trivial
  | opsBad => trivial
  | @opsGo g l d s s2 a b lo hi r o hop _ hsp _ _ ih1 ih2 => cases o with
    | bad c p => trivial
    | ok s' b' =>
      have h1 : s2.rest.length < r.length := ih1
      have h2 : s'.rest.length ≤ s2.rest.length := ih2
      have h3 := (span_le hsp).length_le
      have h4 := tail_lt (op_kinds hop).1
      show s'.rest.length ≤ s.rest.length
      omega
  | repBad => trivial
  | @rep d s s1 a o _ _ ih1 ih2 => cases o with
    | bad c p => trivial
    | ok s' b => exact Nat.lt_of_le_of_lt (show s'.rest.length ≤ s1.rest.length from ih2) ih1
  | starsEnd => exact Nat.le_refl _
  | starsMany => trivial
  | @starsGo d s a o ht _ _ ih => cases o with
    | bad c p => trivial
    | ok s' b' =>
      have h2 : s'.rest.length ≤ s.rest.tail.length := ih
      have h4 := tail_lt (l := s.rest) (by rw [ht]; decide)
      show s'.rest.length ≤ s.rest.length
      omega
  | leafMany => trivial
  | leaf hl _ => exact tail_lt (leaf_kinds hl).1
  | parDeep => trivial
  | parBad => trivial
  | parMiss => trivial
  | @par g d s s1 a ht _ _ hc ih =>
    have h1 : s1.rest.length < s.rest.tail.length := ih
    have h2 := tail_lt (l := s.rest) (by rw [ht]; decide)
    have h3 := tail_lt (l := s1.rest) (by rw [hc]; decide)
    show s1.rest.tail.length < s.rest.length
    omega
  | preDeep => trivial
  | preMany => trivial
  | preSpan => trivial
  | preBad => trivial
  | @pre g d s s1 a lo hi r hp _ _ hsp _ ih =>
    have h1 : s1.rest.length < r.length := ih
    have h3 := (span_le hsp).length_le
    have h4 := tail_lt (pre_kinds hp).1
    show s1.rest.length < s.rest.length
    omega
  | brMany => trivial
  | brSpan => trivial
  | brMiss => trivial
  | brDeep => trivial
  | brBad => trivial
  | brEnd => trivial
  | @br g d s s1 a lo hi r hp _ hsp hb _ _ hc ih =>
    have h1 : s1.rest.length < r.tail.length := ih
    have h2 := tail_lt (l := r) (by rw [hb]; decide)
    have h3 := (span_le hsp).length_le
    have h4 := tail_lt (brace_kinds hp).1
    have h5 := tail_lt (l := s1.rest) (by rw [hc]; decide)
    show s1.rest.tail.length < s.rest.length
    omega
  | none => trivial
theorem span_code {k : Nat} {r : List Tk} {c p : Nat} (h : spanM k r = .error (c, p)) : c = 2 := by
  unfold spanM at h
  repeat' (first | (cases h; rfl) | (cases h; done) | split at h | (simp only at h; split at h))
theorem d_code1 {nt : NT} {d : Nat} {s : St} {o : Out} (h : D nt d s o) : ∀ c p, o = .bad c p → c ≠ 0 := by
    induction h with
    | rowUn _ ih => exact ih
    | rowRep _ ih => exact ih
    | rowBad _ _ ih => intro c p e; injection e with e1 e2; subst e1; exact ih _ _ rfl
    | row _ _ _ _ ih => exact ih
    | opsEnd => intro c p e; cases e
    | opsMany => intro c p e; injection e with e1 e2; omega
    | opsSpan _ _ hs => intro c p e; injection e with e1 e2; have := span_code hs; omega
    | opsBad _ _ _ _ ih => intro c p e; injection e with e1 e2; subst e1; exact ih _ _ rfl
    | opsGo _ _ _ _ _ _ ih => exact ih
    | repBad _ ih => intro c p e; injection e with e1 e2; subst e1; exact ih _ _ rfl
    | rep _ _ _ ih => exact ih
    | starsEnd => intro c p e; cases e
    | starsMany => intro c p e; injection e with e1 e2; omega
    | starsGo _ _ _ ih => exact ih
    | leafMany => intro c p e; injection e with e1 e2; omega
    | leaf => intro c p e; cases e
    | parDeep => intro c p e; injection e with e1 e2; omega
    | parBad _ _ _ ih => intro c p e; injection e with e1 e2; subst e1; exact ih _ _ rfl
    | parMiss => intro c p e; injection e with e1 e2; omega
    | par => intro c p e; cases e
    | preDeep => intro c p e; injection e with e1 e2; omega
    | preMany => intro c p e; injection e with e1 e2; omega
    | preSpan _ _ _ hs => intro c p e; injection e with e1 e2; have := span_code hs; omega
    | preBad _ _ _ _ _ ih => intro c p e; injection e with e1 e2; subst e1; exact ih _ _ rfl
    | pre => intro c p e; cases e
    | brMany => intro c p e; injection e with e1 e2; omega
    | brSpan _ _ hs => intro c p e; injection e with e1 e2; have := span_code hs; omega
    | brMiss => intro c p e; injection e with e1 e2; omega
    | brDeep => intro c p e; injection e with e1 e2; omega
    | brBad _ _ _ _ _ _ ih => intro c p e; injection e with e1 e2; subst e1; exact ih _ _ rfl
    | brEnd => intro c p e; injection e with e1 e2; omega
    | br => intro c p e; cases e
    | none => intro c p e; injection e with e1 e2; omega
theorem d_code {nt : NT} {d : Nat} {s : St} {c p : Nat} (h : D nt d s (.bad c p)) : c ≠ 0 := d_code1 h c p rfl
def RoomP (s : St) : Out → Prop
  | .bad _ _ => True
  | .ok s' _ => s'.nodes.length + s'.rest.length ≤ s.nodes.length + s.rest.length
theorem d_room {nt : NT} {d : Nat} {s : St} {o : Out} (h : D nt d s o) : RoomP s o := by
  have hl : ∀ (l : List Nd) (n : Nd), (l ++ [n]).length = l.length + 1 := fun l n => by rw [List.length_append]; rfl
  induction h with
  | rowUn _ ih => exact ih
  | rowRep _ ih => exact ih
  | rowBad => trivial
  | @row g l d s s1 a o _ _ _ ih1 ih2 => cases o with
    | bad c p => trivial
    | ok s' b => exact Nat.le_trans (show s'.nodes.length + s'.rest.length ≤ s1.nodes.length + s1.rest.length from ih2) ih1
  | opsEnd => exact Nat.le_refl _
  | opsMany => trivial
  | opsSpan => trivial
  | opsBad => trivial
  | @opsGo g l d s s2 a b lo hi r o hop _ hsp _ _ ih1 ih2 => cases o with
    | bad c p => trivial
    | ok s' b' =>
      have h1 : s2.nodes.length + s2.rest.length ≤ s.nodes.length + r.length := ih1
      have h2 : s'.nodes.length + s'.rest.length ≤ (s2.nodes ++ [_]).length + s2.rest.length := ih2
      rw [hl] at h2
      have h3 := (span_le hsp).length_le
      have h4 := tail_lt (op_kinds hop).1
      show s'.nodes.length + s'.rest.length ≤ s.nodes.length + s.rest.length
      omega
  | repBad => trivial
  | @rep d s s1 a o _ _ ih1 ih2 => cases o with
    | bad c p => trivial
    | ok s' b => exact Nat.le_trans (show s'.nodes.length + s'.rest.length ≤ s1.nodes.length + s1.rest.length from ih2) ih1
  | starsEnd => exact Nat.le_refl _
  | starsMany => trivial
  | @starsGo d s a o ht _ _ ih => cases o with
    | bad c p => trivial
    | ok s' b' =>
      have h2 : s'.nodes.length + s'.rest.length ≤ (s.nodes ++ [_]).length + s.rest.tail.length := ih
      rw [hl] at h2
      have h4 := tail_lt (l := s.rest) (by rw [ht]; decide)
      show s'.nodes.length + s'.rest.length ≤ s.nodes.length + s.rest.length
      omega
  | leafMany => trivial
  | @leaf g d s n hlf _ =>
    have h4 := tail_lt (leaf_kinds hlf).1
    show (s.nodes ++ [n]).length + s.rest.tail.length ≤ s.nodes.length + s.rest.length
    rw [hl]; omega
  | parDeep => trivial
  | parBad => trivial
  | parMiss => trivial
  | @par g d s s1 a ht _ _ hc ih =>
    have h1 : s1.nodes.length + s1.rest.length ≤ s.nodes.length + s.rest.tail.length := ih
    have h2 := tail_lt (l := s.rest) (by rw [ht]; decide)
    have h3 := tail_lt (l := s1.rest) (by rw [hc]; decide)
    show s1.nodes.length + s1.rest.tail.length ≤ s.nodes.length + s.rest.length
    omega
  | preDeep => trivial
  | preMany => trivial
  | preSpan => trivial
  | preBad => trivial
  | @pre g d s s1 a lo hi r hp _ _ hsp _ ih =>
    have h1 : s1.nodes.length + s1.rest.length ≤ s.nodes.length + r.length := ih
    have h3 := (span_le hsp).length_le
    have h4 := tail_lt (pre_kinds hp).1
    show (s1.nodes ++ [_]).length + s1.rest.length ≤ s.nodes.length + s.rest.length
    rw [hl]; omega
  | brMany => trivial
  | brSpan => trivial
  | brMiss => trivial
  | brDeep => trivial
  | brBad => trivial
  | brEnd => trivial
  | @br g d s s1 a lo hi r hp _ hsp hb _ _ hc ih =>
    have h1 : s1.nodes.length + s1.rest.length ≤ s.nodes.length + r.tail.length := ih
    have h2 := tail_lt (l := r) (by rw [hb]; decide)
    have h3 := (span_le hsp).length_le
    have h4 := tail_lt (brace_kinds hp).1
    have h5 := tail_lt (l := s1.rest) (by rw [hc]; decide)
    show (s1.nodes ++ [_]).length + s1.rest.tail.length ≤ s.nodes.length + s.rest.length
    rw [hl]; omega
  | none => trivial
theorem stars_total : ∀ (n : Nat) (d : Nat) (s : St) (a : Int), s.rest.length ≤ n → ∃ o, D (.stars a) d s o
  | 0, d, s, a, h => by
    have e : s.rest = [] := List.eq_nil_of_length_eq_zero (by omega)
    exact ⟨_, .starsEnd (by rw [e]; show ([] : List UInt8) ≠ [42]; decide)⟩
  | n + 1, d, s, a, h => by
    by_cases ht : Parse.textOf s.rest = [42]
    · by_cases hm : s.made = 200
      · exact ⟨_, .starsMany ht hm⟩
      · have := tail_lt (l := s.rest) (by rw [ht]; decide)
        obtain ⟨o, ho⟩ := stars_total n d ⟨s.rest.tail, s.made + 1, s.nodes ++ [nd1 22 0 0 [a]]⟩ (s.nodes.length : Int) (by show s.rest.tail.length ≤ n; omega)
        exact ⟨o, .starsGo ht hm ho⟩
    · exact ⟨_, .starsEnd ht⟩
theorem ops_total {g : Bool} {L d : Nat} : ∀ (n : Nat), (∀ s : St, s.rest.length < n → ∃ o, D (.row g (L + 1)) d s o) → ∀ (s : St) (a : Int), s.rest.length ≤ n → ∃ o, D (.ops g L a) d s o
  | 0, _, s, a, h => by
    have e : s.rest = [] := List.eq_nil_of_length_eq_zero (by omega)
    refine ⟨_, .opsEnd ?_⟩
    rw [e]
    show (if (betwK g []).2 = L + 1 then (betwK g []).1 else 0) = 0
    have e : betwK g [] = (0, 0) := by cases g <;> decide
    rw [e]; split <;> rfl
  | n + 1, hr, s, a, h => by
    by_cases hop : opOf g L (Parse.textOf s.rest) = 0
    · exact ⟨_, .opsEnd hop⟩
    · by_cases hm : s.made = 200
      · exact ⟨_, .opsMany hop hm⟩
      · have h4 := tail_lt (op_kinds hop).1
        rcases hs : spanM (opOf g L (Parse.textOf s.rest)) s.rest.tail with ⟨c, p⟩ | ⟨lo, hi, r⟩
        · exact ⟨_, .opsSpan hop hm hs⟩
        · have h3 := (span_le hs).length_le
          obtain ⟨o, ho⟩ := hr ⟨r, s.made + 1, s.nodes⟩ (by show r.length < n + 1; omega)
          cases o with
          | bad c p => exact ⟨_, .opsBad hop hm hs ho⟩
          | ok s2 b =>
            have h5 : s2.rest.length < r.length := d_less ho
            obtain ⟨o2, ho2⟩ := ops_total n (fun s hs => hr s (by omega)) ⟨s2.rest, s2.made, s2.nodes ++ [nd1 (opOf g L (Parse.textOf s.rest)) lo hi [a, b]]⟩ (s2.nodes.length : Int) (by show s2.rest.length ≤ n; omega)
            exact ⟨o2, .opsGo hop hm hs ho ho2⟩
theorem d_total : ∀ (n : Nat), (∀ (g : Bool) (d : Nat) (s : St), s.rest.length = n → ∃ o, D (.opd g) d s o) ∧ (∀ (g : Bool) (m d : Nat) (s : St), m ≤ lvl g → s.rest.length = n → ∃ o, D (.row g (lvl g - m)) d s o) := by
  intro n
  induction n using Nat.strongRecOn with
  | ind n ih =>
    have ho : ∀ (g : Bool) (d : Nat) (s : St), s.rest.length = n → ∃ o, D (.opd g) d s o := by
      intro g d s hn
      have row0 : ∀ (g : Bool) (d : Nat) (s' : St), s'.rest.length < n → ∃ o, D (.row g 0) d s' o := fun g d s' h => by
        have := (ih _ h).2 g (lvl g) d s' (Nat.le_refl _) rfl
        rw [Nat.sub_self] at this
        exact this
      cases hl : leafOf g (Parse.textOf s.rest) with
      | some x =>
        by_cases hm : s.made = 200
        · exact ⟨_, .leafMany hl hm⟩
        · exact ⟨_, .leaf hl hm⟩
      | none =>
        by_cases hp : Parse.textOf s.rest = [40]
        · by_cases hd : d = 40
          · exact ⟨_, .parDeep hp hd⟩
          · have := tail_lt (l := s.rest) (by rw [hp]; decide)
            obtain ⟨o, h1⟩ := row0 g (d + 1) ⟨s.rest.tail, s.made, s.nodes⟩ (by show s.rest.tail.length < n; omega)
            cases o with
            | bad c p => exact ⟨_, .parBad hp hd h1⟩
            | ok s1 a =>
              by_cases hc : Parse.textOf s1.rest = [41]
              · exact ⟨_, .par hp hd h1 hc⟩
              · exact ⟨_, .parMiss hp hd h1 hc⟩
        · by_cases hb : braceOf g (Parse.textOf s.rest) = 0
          · by_cases hpr : preOf g (Parse.textOf s.rest) = 0
            · exact ⟨_, .none hl hp hb hpr⟩
            · by_cases hd : d = 40
              · exact ⟨_, .preDeep hpr hd⟩
              · by_cases hm : s.made = 200
                · exact ⟨_, .preMany hpr hd hm⟩
                · have h4 := tail_lt (pre_kinds hpr).1
                  rcases hs : spanM (preOf g (Parse.textOf s.rest)) s.rest.tail with ⟨c, p⟩ | ⟨lo, hi, r⟩
                  · exact ⟨_, .preSpan hpr hd hm hs⟩
                  · have h3 := (span_le hs).length_le
                    obtain ⟨o, h1⟩ := (ih r.length (by omega)).1 false (d + 1) ⟨r, s.made + 1, s.nodes⟩ rfl
                    cases o with
                    | bad c p => exact ⟨_, .preBad hpr hd hm hs h1⟩
                    | ok s1 a => exact ⟨_, .pre hpr hd hm hs h1⟩
          · by_cases hm : s.made = 200
            · exact ⟨_, .brMany hb hm⟩
            · have h4 := tail_lt (brace_kinds hb).1
              rcases hs : spanM (braceOf g (Parse.textOf s.rest)) s.rest.tail with ⟨c, p⟩ | ⟨lo, hi, r⟩
              · exact ⟨_, .brSpan hb hm hs⟩
              · have h3 := (span_le hs).length_le
                by_cases h123 : Parse.textOf r = [123]
                · by_cases hd : d = 40
                  · exact ⟨_, .brDeep hb hm hs h123 hd⟩
                  · have := tail_lt (l := r) (by rw [h123]; decide)
                    obtain ⟨o, h1⟩ := row0 true (d + 1) ⟨r.tail, s.made + 1, s.nodes⟩ (by show r.tail.length < n; omega)
                    cases o with
                    | bad c p => exact ⟨_, .brBad hb hm hs h123 hd h1⟩
                    | ok s1 a =>
                      by_cases hc : Parse.textOf s1.rest = [125]
                      · exact ⟨_, .br hb hm hs h123 hd h1 hc⟩
                      · exact ⟨_, .brEnd hb hm hs h123 hd h1 hc⟩
                · exact ⟨_, .brMiss hb hm hs h123⟩
    refine ⟨ho, fun g m => ?_⟩
    induction m with
    | zero =>
      intro d s _ hn
      rw [Nat.sub_zero]
      cases g
      · obtain ⟨o, h1⟩ := ho false d s hn
        exact ⟨o, .rowUn h1⟩
      · obtain ⟨o, h1⟩ := ho true d s hn
        cases o with
        | bad c p => exact ⟨_, .rowRep (.repBad h1)⟩
        | ok s1 a =>
          obtain ⟨o2, h2⟩ := stars_total _ d s1 a (Nat.le_refl _)
          exact ⟨o2, .rowRep (.rep h1 h2)⟩
    | succ m ihm =>
      intro d s hm hn
      obtain ⟨L, hL⟩ : ∃ L, lvl g - (m + 1) = L := ⟨_, rfl⟩
      have e : lvl g - m = L + 1 := by omega
      rw [hL]
      rw [e] at ihm
      obtain ⟨o, h1⟩ := ihm d s (by omega) hn
      cases o with
      | bad c p => exact ⟨_, .rowBad (by omega) h1⟩
      | ok s1 a =>
        have h5 : s1.rest.length < s.rest.length := d_less h1
        obtain ⟨o2, h2⟩ := ops_total (g := g) (L := L) (d := d) s1.rest.length (fun s' hs' => by
          have := (ih s'.rest.length (by omega)).2 g m d s' (by omega) rfl
          rw [e] at this
          exact this) s1 a (Nat.le_refl _)
        exact ⟨o2, .row (by omega) h1 h2⟩
/-- What is read of any text may be, and is what was asked for. -/
theorem parse_may {g : Bool} {bs : List UInt8} {l : List Nd} {p : Nat} (h : parseS g bs = (l, p, 0)) : mayL l = true ∧ regKind (lastKind l) = g ∧ l.length ≤ 2001 := by
  unfold parseS at h
  split at h
  · next hc => injection h with _ h; injection h with _ h; exact absurd h hc
  · next hc =>
    have hc : (lexS bs).2.2 = 0 := Decidable.byContradiction hc
    obtain ⟨hG, hlen⟩ := lexS_good hc
    obtain ⟨o, ho⟩ := (d_total (lexS bs).1.length).2 g (lvl g) 0 (St0 (lexS bs).1) (Nat.le_refl _) rfl
    rw [Nat.sub_self] at ho
    rw [sim_whole hG.allOk ho] at h
    have hM := d_may ho hG
    have hRm := d_room ho
    cases o with
    | bad c q =>
      have h : (([], q, c) : List Nd × Nat × Nat) = (l, p, 0) := h
      injection h with h1 h2
      injection h2 with h2 h3
      subst h3
      exact absurd rfl (d_code ho)
    | ok s' a =>
      obtain ⟨-, -, hg⟩ := hM
      have h : (if kindOf s'.rest = 0 then (s'.nodes, 0, 0) else (([], posOf s'.rest, 2) : List Nd × Nat × Nat)) = (l, p, 0) := h
      split at h
      · injection h with h1 h2
        subst h1
        obtain ⟨k, rfl, hu, hk, hr⟩ := hg [] rfl
        have hu : mayUpTo s'.nodes s'.nodes.length = some [k] := hu
        have hm := may_of hu
        have ht := may_top hm
        rw [hu] at ht
        injection ht with ht
        injection ht with ht
        have hRm : s'.nodes.length + s'.rest.length ≤ 0 + (lexS bs).1.length := hRm
        refine ⟨hm, ?_, by omega⟩
        rw [← lastKind_at (may_ne hm), ← ht]
        exact hr
      · injection h with h1 h2
        injection h2 with h2 h3
        cases h3
end Go.Proofs.YthcbgneoonekkaaGreatDoor.Show
