/-
  What the law's build makes may be: plain mathematics. By an AI agent.
-/
import Derived.Test.YtcpmcgbjmncalaaGPathsUnion12
import Derived.Test.YtcpmcgbjmncalaaGPathsUnion22
namespace Go.Proofs.Ytcpmcgbjmncalaa.Tree
open Go.RowKit Go.Proofs.Ytcpmcgbjmncalaa.Ints

/-- May be; a formula or not; plain, if that is asked. -/
def G (fm pl : Bool) (l : List Nd) : Prop := mayL l = true ∧ regKind (lastKind l) = !fm ∧ (pl = true → (l.all fun n => !sweet n.kind) = true)
theorem over_last (n : Nd) (a b : List Nd) : lastKind (overL n a b) = n.kind := by
  unfold lastKind overL
  rw [List.getLast?_concat]
  rfl
theorem over_len (n : Nd) (a b : List Nd) : (overL n a b).length = a.length + b.length + 1 := by
  unfold overL
  rw [List.length_append, List.length_append, List.length_map]
  rfl
theorem over_plain {n : Nd} {a b : List Nd} (ha : (a.all fun n => !sweet n.kind) = true) (hb : (b.all fun n => !sweet n.kind) = true) (hn : sweet n.kind = false) : ((overL n a b).all fun n => !sweet n.kind) = true := by
  have e : ((b.map (shiftNd a.length)).all fun n => !sweet n.kind) = (b.all fun n => !sweet n.kind) := by
    rw [List.all_map]; rfl
  unfold overL
  rw [List.all_append, List.all_append, ha, e, hb]
  simp [hn]
theorem G.over0 {pl : Bool} {n : Nd} (h0 : kidc n.kind = 0) (hf : fieldsB n = true) (hp : pl = true → sweet n.kind = false) : G (!(regKind n.kind)) pl (overL n [] []) :=
  ⟨may_over0 h0 hf, by rw [over_last, Bool.not_not], fun h => over_plain rfl rfl (hp h)⟩
theorem G.over1 {fm pl : Bool} {n : Nd} {a : List Nd} (ha : G fm pl a) (h0 : kidc n.kind = 1) (hf : fieldsB n = true) (ht : takesReg n.kind = !fm) (hp : pl = true → sweet n.kind = false) : G (!(regKind n.kind)) pl (overL n a []) :=
  ⟨may_over1 h0 hf ha.1 (by rw [ha.2.1, ht]), by rw [over_last, Bool.not_not], fun h => over_plain (ha.2.2 h) rfl (hp h)⟩
theorem G.over2 {fm pl : Bool} {n : Nd} {a b : List Nd} (ha : G fm pl a) (hb : G fm pl b) (h0 : kidc n.kind = 2) (hf : fieldsB n = true) (ht : takesReg n.kind = !fm) (hp : pl = true → sweet n.kind = false) : G (!(regKind n.kind)) pl (overL n a b) :=
  ⟨may_over2 h0 hf ha.1 hb.1 (by rw [ha.2.1, ht]) (by rw [hb.2.1, ht]), by rw [over_last, Bool.not_not], fun h => over_plain (ha.2.2 h) (hb.2.2 h) (hp h)⟩

theorem kind_fields {k : Int} (h : (1 ≤ k ∧ k ≤ 7 ∧ k ≠ 3) ∨ (18 ≤ k ∧ k ≤ 22)) : fieldsB (kindNd k) = true := by
  unfold fieldsB nameOkB okSpan timed kindNd
  simp only
  rw [(kinds_range k).2 (by omega), if_neg (by omega), decide_eq_false (show ¬ (8 ≤ k ∧ k ≤ 17) by omega)]
  rfl
theorem prop_fields (n : Int) : fieldsB (propNd n) = true := by
  unfold fieldsB propNd
  by_cases h0 : n % 3 = 0
  · rw [if_pos h0]; decide
  · by_cases h1 : n % 3 = 1
    · rw [if_neg h0, if_pos h1]; decide
    · rw [if_neg h0, if_neg h1]; decide
theorem span_fields {k n : Int} (h : 8 ≤ k ∧ k ≤ 17) (hn : 0 ≤ n ∧ n ≤ 9000) : fieldsB (spanNd k n) = true := by
  unfold fieldsB nameOkB okSpan timed spanNd
  simp only
  rw [(kinds_range k).2 (by omega), if_neg (by omega), decide_eq_true h, if_pos rfl]
  have : Ival.mayS (spanLo n) (spanHi n) = true := by
    unfold Ival.mayS
    refine decide_eq_true ?_
    unfold spanHi spanLo
    split <;> split <;> omega
  rw [this]
  rfl

/-! ### rows of lists -/
theorem split_last {α : Type} {l : List α} {d : α} (h : ¬ l.length < 1) : l = l.take (l.length - 1) ++ [l.getD (l.length - 1) d] := by
  have h1 : l.length - 1 < l.length := by omega
  have := List.take_append_drop (l.length - 1) l
  rw [List.drop_eq_getElem_cons h1, List.drop_eq_nil_of_le (by omega)] at this
  rw [List.getD_eq_getElem?_getD, List.getElem?_eq_getElem h1]
  exact this.symm
theorem split_two {α : Type} {l : List α} {d : α} (h : ¬ l.length < 2) : l = l.take (l.length - 2) ++ [l.getD (l.length - 2) d, l.getD (l.length - 1) d] := by
  have h1 : l.length - 2 < l.length := by omega
  have h2 : l.length - 1 < l.length := by omega
  have := List.take_append_drop (l.length - 2) l
  rw [List.drop_eq_getElem_cons h1, show l.length - 2 + 1 = l.length - 1 by omega, List.drop_eq_getElem_cons h2, List.drop_eq_nil_of_le (by omega)] at this
  rw [List.getD_eq_getElem?_getD, List.getElem?_eq_getElem h1, List.getD_eq_getElem?_getD, List.getElem?_eq_getElem h2]
  exact this.symm
def tot (l : Ls) : Nat := (l.map List.length).sum
theorem tot_append (a b : Ls) : tot (a ++ b) = tot a + tot b := by
  unfold tot
  rw [List.map_append, List.sum_append]
theorem tot_one (x : List Nd) : tot [x] = x.length := by simp [tot]
theorem tot_two (x y : List Nd) : tot [x, y] = x.length + y.length := by simp [tot]
theorem tot_mem {l : Ls} {x : List Nd} (h : x ∈ l) : x.length ≤ tot l := by
  induction l with
  | nil => simp at h
  | cons y l ih =>
    have e : tot (y :: l) = y.length + tot l := by simp [tot]
    rw [e]
    rcases List.mem_cons.1 h with rfl | h
    · omega
    · have := ih h; omega
theorem tot_len {l : Ls} (h : ∀ x ∈ l, 0 < x.length) : l.length ≤ tot l := by
  induction l with
  | nil => simp
  | cons y l ih =>
    have e : tot (y :: l) = y.length + tot l := by simp [tot]
    have h1 := h y List.mem_cons_self
    have h2 := ih fun x hx => h x (List.mem_cons_of_mem _ hx)
    rw [e, List.length_cons]; omega
def AllG (fm pl : Bool) (l : Ls) : Prop := ∀ x ∈ l, G fm pl x
theorem AllG.snoc {fm pl : Bool} {l : Ls} {x : List Nd} (h : AllG fm pl l) (hx : G fm pl x) : AllG fm pl (l ++ [x]) := fun y hy => by
  rcases List.mem_append.1 hy with hy | hy
  · exact h y hy
  · rw [List.mem_singleton.1 hy]; exact hx
theorem AllG.take {fm pl : Bool} {l : Ls} (h : AllG fm pl l) (k : Nat) : AllG fm pl (l.take k) := fun y hy => h y (List.mem_of_mem_take hy)
theorem AllG.at {fm pl : Bool} {l : Ls} (h : AllG fm pl l) {k : Nat} (hk : k < l.length) : G fm pl (l.getD k []) := by
  rw [List.getD_eq_getElem?_getD, List.getElem?_eq_getElem hk]
  exact h _ (List.getElem_mem hk)
theorem one_ok {fm pl : Bool} {l : Ls} {n : Nd} (h : AllG fm pl l) (hn : regKind n.kind = !fm) (h0 : kidc n.kind = 1) (hf : fieldsB n = true) (ht : takesReg n.kind = !fm) (hp : pl = true → sweet n.kind = false) : AllG fm pl (oneL l n) ∧ tot (oneL l n) ≤ tot l + 1 := by
  unfold oneL
  by_cases hl : l.length < 1
  · rw [if_pos hl]; exact ⟨h, by omega⟩
  · rw [if_neg hl]
    refine ⟨(h.take _).snoc ?_, ?_⟩
    · have := (h.at (k := l.length - 1) (by omega)).over1 h0 hf ht hp
      rw [hn, Bool.not_not] at this
      exact this
    · have e := congrArg tot (split_last (d := []) hl)
      rw [tot_append, tot_one] at e
      rw [tot_append, tot_one, over_len, e, List.length_nil]; omega
theorem two_ok {fm pl : Bool} {l : Ls} {n : Nd} (h : AllG fm pl l) (hn : regKind n.kind = !fm) (h0 : kidc n.kind = 2) (hf : fieldsB n = true) (ht : takesReg n.kind = !fm) (hp : pl = true → sweet n.kind = false) : AllG fm pl (twoL l n) ∧ tot (twoL l n) ≤ tot l + 1 := by
  unfold twoL
  by_cases hl : l.length < 2
  · rw [if_pos hl]; exact ⟨h, by omega⟩
  · rw [if_neg hl]
    refine ⟨(h.take _).snoc ?_, ?_⟩
    · have := (h.at (k := l.length - 2) (by omega)).over2 (h.at (k := l.length - 1) (by omega)) h0 hf ht hp
      rw [hn, Bool.not_not] at this
      exact this
    · have e := congrArg tot (split_two (d := []) hl)
      rw [tot_append, tot_two] at e
      rw [tot_append, tot_one, over_len, e]; omega
structure PileOk (pl : Bool) (k : Nat) (P : Ls × Ls) : Prop where
  f : AllG true pl P.1
  r : AllG false pl P.2
  t : tot P.1 + tot P.2 ≤ k
theorem single_ok {fm pl : Bool} {n : Nd} (hk : n.kids = []) (hn : regKind n.kind = !fm) (h0 : kidc n.kind = 0) (hf : fieldsB n = true) (hp : pl = true → sweet n.kind = false) : G fm pl [n] := by
  have := G.over0 (pl := pl) h0 hf hp
  rw [hn, Bool.not_not] at this
  have e : overL n [] [] = [n] := by
    obtain ⟨k, nm, lo, hi, ks⟩ := n
    simp only at hk
    subst hk
    rfl
  rw [← e]; exact this
theorem add_ok {pl : Bool} {op arg : Int} {k : Nat} {P : Ls × Ls} (h : PileOk pl k P) (hop : 0 ≤ op ∧ op ≤ 23) (harg : 0 ≤ arg ∧ arg ≤ 9000) (hpl : pl = true → ¬ (7 ≤ op ∧ op ≤ 15)) : PileOk pl (k + 1) (addL op arg P.1 P.2) := by
  obtain ⟨F, R⟩ := P
  obtain ⟨hf, hr, ht⟩ := h
  simp only at hf hr ht
  have ns : ∀ x : Int, x ≠ 7 → ¬ (8 ≤ x ∧ x ≤ 15) → sweet x = false := fun x h1 h2 => by unfold sweet; rw [decide_eq_false h1, decide_eq_false h2]; rfl
  unfold addL
  by_cases c0 : op = 0
  · rw [if_pos c0]
    have h1 : arg % 2 = 0 ∨ arg % 2 = 1 := by omega
    refine ⟨hf.snoc ?_, hr, by simp only; rw [tot_append, tot_one, List.length_singleton]; omega⟩
    rcases h1 with e | e
    · rw [e]; exact single_ok rfl (by decide) (by decide) (kind_fields (by omega)) (fun _ => by decide)
    · rw [e]; exact single_ok rfl (by decide) (by decide) (kind_fields (by omega)) (fun _ => by decide)
  rw [if_neg c0]
  by_cases c1 : op ≤ 3
  · rw [if_pos c1]
    exact ⟨hf.snoc (single_ok rfl (show regKind 3 = _ by decide) (show kidc 3 = 0 by decide) (prop_fields _) (fun _ => show sweet 3 = false by decide)), hr, by simp only; rw [tot_append, tot_one, List.length_singleton]; omega⟩
  rw [if_neg c1]
  by_cases c2 : op = 4
  · rw [if_pos c2]
    obtain ⟨a, b⟩ := one_ok (n := kindNd 4) hf (show regKind 4 = _ by decide) (show kidc 4 = 1 by decide) (kind_fields (by omega)) (show takesReg 4 = _ by decide) (fun _ => show sweet 4 = false by decide)
    exact ⟨a, hr, by simp only; omega⟩
  rw [if_neg c2]
  by_cases c3 : op ≤ 7
  · rw [if_pos c3]
    have e : op = 5 ∨ op = 6 ∨ op = 7 := by omega
    have key : regKind op = !true ∧ kidc op = 2 ∧ takesReg op = !true := by rcases e with rfl | rfl | rfl <;> decide
    obtain ⟨a, b⟩ := two_ok (n := kindNd op) (pl := pl) hf key.1 key.2.1 (kind_fields (by omega)) key.2.2 (fun hp => ns op (by have := hpl hp; omega) (by omega))
    exact ⟨a, hr, by simp only; omega⟩
  rw [if_neg c3]
  by_cases c4 : op ≤ 13
  · rw [if_pos c4]
    have e : op = 8 ∨ op = 9 ∨ op = 10 ∨ op = 11 ∨ op = 12 ∨ op = 13 := by omega
    have key : regKind op = !true ∧ kidc op = 1 ∧ takesReg op = !true := by rcases e with rfl | rfl | rfl | rfl | rfl | rfl <;> decide
    obtain ⟨a, b⟩ := one_ok (n := spanNd op arg) (pl := pl) hf key.1 key.2.1 (span_fields (by omega) harg) key.2.2 (fun hp => absurd (hpl hp) (by omega))
    exact ⟨a, hr, by simp only; omega⟩
  rw [if_neg c4]
  by_cases c5 : op ≤ 15
  · rw [if_pos c5]
    have e : op = 14 ∨ op = 15 := by omega
    have key : regKind op = !true ∧ kidc op = 2 ∧ takesReg op = !true := by rcases e with rfl | rfl <;> decide
    obtain ⟨a, b⟩ := two_ok (n := spanNd op arg) (pl := pl) hf key.1 key.2.1 (span_fields (by omega) harg) key.2.2 (fun hp => absurd (hpl hp) (by omega))
    exact ⟨a, hr, by simp only; omega⟩
  rw [if_neg c5]
  by_cases c6 : op ≤ 17
  · rw [if_pos c6]
    by_cases hl : R.length < 1
    · rw [if_pos hl]; exact ⟨hf, hr, by simp only; omega⟩
    · rw [if_neg hl]
      have e : op = 16 ∨ op = 17 := by omega
      have key : regKind op = !true ∧ kidc op = 1 ∧ takesReg op = !false ∧ sweet op = false := by rcases e with rfl | rfl <;> decide
      have hx := (hr.at (k := R.length - 1) (by omega)).over1 (n := spanNd op arg) key.2.1 (span_fields (by omega) harg) key.2.2.1 (fun _ => key.2.2.2)
      rw [show regKind (spanNd op arg).kind = !true from key.1, Bool.not_not] at hx
      have e := congrArg tot (split_last (d := []) hl)
      rw [tot_append, tot_one] at e
      exact ⟨hf.snoc hx, hr.take _, by simp only; rw [tot_append, tot_one, over_len, List.length_nil]; omega⟩
  rw [if_neg c6]
  by_cases c7 : op ≤ 19
  · rw [if_pos c7]
    exact ⟨hf, hr.snoc (single_ok rfl (show regKind 18 = _ by decide) (show kidc 18 = 0 by decide) (kind_fields (by omega)) (fun _ => show sweet 18 = false by decide)), by simp only; rw [tot_append, tot_one, List.length_singleton]; omega⟩
  rw [if_neg c7]
  by_cases c8 : op = 20
  · rw [if_pos c8]
    by_cases hl : F.length < 1
    · rw [if_pos hl]; exact ⟨hf, hr, by simp only; omega⟩
    · rw [if_neg hl]
      have hx := (hf.at (k := F.length - 1) (by omega)).over1 (n := kindNd 19) (show kidc 19 = 1 by decide) (kind_fields (by omega)) (show takesReg 19 = _ by decide) (fun _ => show sweet 19 = false by decide)
      rw [show regKind (kindNd 19).kind = !false by decide, Bool.not_not] at hx
      have e := congrArg tot (split_last (d := []) hl)
      rw [tot_append, tot_one] at e
      exact ⟨hf.take _, hr.snoc hx, by simp only; rw [tot_append, tot_one, over_len, List.length_nil]; omega⟩
  rw [if_neg c8]
  by_cases c9 : op ≤ 22
  · rw [if_pos c9]
    have e : op = 21 ∨ op = 22 := by omega
    have key : regKind (op - 1) = !false ∧ kidc (op - 1) = 2 ∧ takesReg (op - 1) = !false ∧ sweet (op - 1) = false := by rcases e with rfl | rfl <;> decide
    obtain ⟨a, b⟩ := two_ok (n := kindNd (op - 1)) (pl := pl) hr key.1 key.2.1 (kind_fields (by omega)) key.2.2.1 (fun _ => key.2.2.2)
    exact ⟨hf, a, by simp only; omega⟩
  rw [if_neg c9]
  obtain ⟨a, b⟩ := one_ok (n := kindNd 22) (pl := pl) hr (show regKind 22 = _ by decide) (show kidc 22 = 1 by decide) (kind_fields (by omega)) (show takesReg 22 = _ by decide) (fun _ => show sweet 22 = false by decide)
  exact ⟨hf, a, by simp only; omega⟩
/-! ### by numbers -/
def opOf (pl : Bool) (z : Int) : Int := if pl = true then plainer (z % 24) else z % 24
def buildN (pl : Bool) (zs : List Int) : Ls × Ls := zs.foldl (fun P z => addL (opOf pl z) (z / 24) P.1 P.2) ([], [])
theorem op_range (pl : Bool) (z : Int) : (0 ≤ opOf pl z ∧ opOf pl z ≤ 23) ∧ (pl = true → ¬ (7 ≤ opOf pl z ∧ opOf pl z ≤ 15)) := by
  have h : 0 ≤ z % 24 ∧ z % 24 ≤ 23 := by omega
  generalize hk : z % 24 = k at h
  unfold opOf
  rw [hk]
  cases pl with
  | true =>
    rw [if_pos rfl]
    unfold plainer
    split
    · omega
    · split
      · omega
      · split
        · omega
        · split <;> omega
  | false => rw [if_neg (by decide)]; exact ⟨h, fun e => by cases e⟩
theorem build_snoc (pl : Bool) (zs : List Int) (z : Int) : buildN pl (zs ++ [z]) = addL (opOf pl z) (z / 24) (buildN pl zs).1 (buildN pl zs).2 := by
  unfold buildN
  rw [List.foldl_append]; rfl
theorem build_ok (pl : Bool) (zs : List Int) (h : ∀ z ∈ zs, 0 ≤ z ∧ z ≤ 65535) : ∀ k, k ≤ zs.length → PileOk pl k (buildN pl (zs.take k)) := by
  intro k
  induction k with
  | zero => intro _; exact ⟨fun x hx => by simp [buildN] at hx, fun x hx => by simp [buildN] at hx, by simp [buildN, tot]⟩
  | succ k ih =>
    intro hk
    rw [List.take_succ_eq_append_getElem (by omega), build_snoc]
    have hz := h zs[k] (List.getElem_mem (by omega))
    have ho := op_range pl zs[k]
    exact add_ok (ih (by omega)) ho.1 (by omega) ho.2
def buildL (pl : Bool) (zs : List Int) : Ls × Ls := buildN pl (zs.take 100)
def lastOr (l : Ls) (d : List Nd) : List Nd := if l.length = 0 then d else l.getD (l.length - 1) []
def regMk (pl : Bool) (zs : List Int) : List Nd := lastOr (buildL pl zs).2 [kindNd 18]
theorem buildL_ok (pl : Bool) (zs : List Int) (h : ∀ z ∈ zs, 0 ≤ z ∧ z ≤ 65535) : PileOk pl 100 (buildL pl zs) := by
  unfold buildL
  have := build_ok pl (zs.take 100) (fun z hz => h z (List.mem_of_mem_take hz)) (zs.take 100).length (Nat.le_refl _)
  rw [List.take_length] at this
  exact ⟨this.f, this.r, Nat.le_trans this.t (List.length_take_le _ _)⟩
theorem lastOr_ok {fm pl : Bool} {l : Ls} {d : List Nd} (h : AllG fm pl l) (hd : G fm pl d) (hdl : d.length ≤ 100) (ht : tot l ≤ 100) : G fm pl (lastOr l d) ∧ (lastOr l d).length ≤ 100 := by
  unfold lastOr
  by_cases h0 : l.length = 0
  · rw [if_pos h0]; exact ⟨hd, hdl⟩
  · rw [if_neg h0]
    refine ⟨h.at (by omega), ?_⟩
    rw [List.getD_eq_getElem?_getD, List.getElem?_eq_getElem (show l.length - 1 < l.length by omega)]
    exact Nat.le_trans (tot_mem (List.getElem_mem _)) ht
theorem reg_ok (pl : Bool) (zs : List Int) (h : ∀ z ∈ zs, 0 ≤ z ∧ z ≤ 65535) : G false pl (regMk pl zs) ∧ (regMk pl zs).length ≤ 100 := by
  have hb := buildL_ok pl zs h
  exact lastOr_ok hb.r (single_ok rfl (show regKind 18 = _ by decide) (show kidc 18 = 0 by decide) (kind_fields (by omega)) (fun _ => show sweet 18 = false by decide)) (by decide) (by have := hb.t; omega)
end Go.Proofs.Ytcpmcgbjmncalaa.Tree
