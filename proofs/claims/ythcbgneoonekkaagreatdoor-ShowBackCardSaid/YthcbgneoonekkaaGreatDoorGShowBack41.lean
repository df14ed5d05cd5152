/-
  A text that is too deep, or too long, is refused; a text that is read as nodes has no fewer brackets than theirs; brackets stand in pairs. By an AI agent.
  The walk of the reference's SameNodes. By an AI agent.
-/
import Derived.Test.YthcbgneoonekkaaGreatDoorGShowBack40
import Derived.Test.YthcbgneoonekkaaGreatDoorGShowBack2
import Derived.Test.YthcbgneoonekkaaGreatDoorGShowBack14
import Derived.Deep.RegionHeld3
namespace Go.Proofs.YthcbgneoonekkaaGreatDoor.Show
open Go.Proofs.YthcbgneoonekkaaGreatDoor.Tree Go.Proofs.YthcbgneoonekkaaGreatDoor.Lex Go.Proofs.YthcbgneoonekkaaGreatDoor.Parse

/-- What is read without a limit is read so with one, or is too deep. -/
theorem d_cut {nt : NT} {d : Nat} {s : St} {o : Out} (h : D nt d s o) : ∀ s1 a, o = .ok s1 a → ∀ d', d' ≤ 40 → D nt d' s (.ok s1 a) ∨ ∃ p, D nt d' s (.bad 3 p) := by
  induction h with
  | rowUn _ ih => intro s1 a e d' hd; exact (ih s1 a e d' hd).imp .rowUn (fun ⟨p, h⟩ => ⟨p, .rowUn h⟩)
  | rowRep _ ih => intro s1 a e d' hd; exact (ih s1 a e d' hd).imp .rowRep (fun ⟨p, h⟩ => ⟨p, .rowRep h⟩)
  | row hl _ _ ih1 ih2 =>
    intro s1 a e d' hd
    rcases ih1 _ _ rfl d' hd with h1 | ⟨p, h1⟩
    · exact (ih2 s1 a e d' hd).imp (.row hl h1) (fun ⟨p, h⟩ => ⟨p, .row hl h1 h⟩)
    · exact Or.inr ⟨p, .rowBad hl h1⟩
  | opsEnd h0 => intro s1 a e d' hd; cases e; exact Or.inl (.opsEnd h0)
  | opsGo h0 hm hs _ _ ih1 ih2 =>
    intro s1 a e d' hd
    rcases ih1 _ _ rfl d' hd with h1 | ⟨p, h1⟩
    · exact (ih2 s1 a e d' hd).imp (.opsGo h0 hm hs h1) (fun ⟨p, h⟩ => ⟨p, .opsGo h0 hm hs h1 h⟩)
    · exact Or.inr ⟨p, .opsBad h0 hm hs h1⟩
  | rep _ _ ih1 ih2 =>
    intro s1 a e d' hd
    rcases ih1 _ _ rfl d' hd with h1 | ⟨p, h1⟩
    · exact (ih2 s1 a e d' hd).imp (.rep h1) (fun ⟨p, h⟩ => ⟨p, .rep h1 h⟩)
    · exact Or.inr ⟨p, .repBad h1⟩
  | starsEnd h0 => intro s1 a e d' hd; cases e; exact Or.inl (.starsEnd h0)
  | starsGo h0 hm _ ih => intro s1 a e d' hd; exact (ih s1 a e d' hd).imp (.starsGo h0 hm) (fun ⟨p, h⟩ => ⟨p, .starsGo h0 hm h⟩)
  | leaf hl hm => intro s1 a e d' hd; cases e; exact Or.inl (.leaf hl hm)
  | @par g d s s1 a h0 _ _ h2 ih =>
    intro s2 b e d' hd
    cases e
    by_cases hd4 : d' = 40
    · exact Or.inr ⟨_, .parDeep h0 hd4⟩
    · rcases ih _ _ rfl (d' + 1) (by omega) with h1 | ⟨p, h1⟩
      · exact Or.inl (.par h0 hd4 h1 h2)
      · exact Or.inr ⟨p, .parBad h0 hd4 h1⟩
  | @pre g d s s1 a lo hi r h0 _ hm hs _ ih =>
    intro s2 b e d' hd
    cases e
    by_cases hd4 : d' = 40
    · exact Or.inr ⟨_, .preDeep h0 hd4⟩
    · rcases ih _ _ rfl (d' + 1) (by omega) with h1 | ⟨p, h1⟩
      · exact Or.inl (.pre h0 hd4 hm hs h1)
      · exact Or.inr ⟨p, .preBad h0 hd4 hm hs h1⟩
  | @br g d s s1 a lo hi r h0 hm hs hb _ _ h2 ih =>
    intro s2 b e d' hd
    cases e
    by_cases hd4 : d' = 40
    · exact Or.inr ⟨_, .brDeep h0 hm hs hb hd4⟩
    · rcases ih _ _ rfl (d' + 1) (by omega) with h1 | ⟨p, h1⟩
      · exact Or.inl (.br h0 hm hs hb hd4 h1 h2)
      · exact Or.inr ⟨p, .brBad h0 hm hs hb hd4 h1⟩
  | _ => intro s1 a e; cases e
theorem text_deep {l : List Nd} {g : Bool} (h : mayL l = true) (hg : regKind (lastKind l) = g) (hl : l.length ≤ 200) (hs : (textL l).length ≤ 2000) (hd : 40 < nestL l) : ∃ p, parseS g (textL l) = ([], p, 3) := by
  have h0 := may_ne h
  obtain ⟨n, hn⟩ : ∃ n, l[l.length - 1]? = some n := ⟨_, List.getElem?_eq_getElem (by omega)⟩
  have hk : lastKind l = n.kind := by
    unfold lastKind
    rw [List.getLast?_eq_getElem?, hn]; rfl
  obtain ⟨ts, h1, h2⟩ := text_lex h hn hs
  rw [hk] at hg
  have hD := text_row h h2 hl (d := 41) (Or.inr (by decide)) [⟨0, [], 0, (textL l).length⟩] (noop_end _ _)
  rw [hg] at hD
  have hG := (lexS_good (bs := textL l) (by rw [h1])).1
  rw [h1] at hG
  rcases d_cut hD _ _ rfl 0 (by decide) with hx | ⟨p, hx⟩
  · exfalso
    obtain ⟨k, hk2, hk3, -, hk5⟩ := d_low (F := l) hx (List.prefix_refl _)
    have hk6 : k = l.length - 1 := by omega
    have := hk5 (by decide)
    have hN : nestL l = nst l (l.length - 1) := if_pos h
    rw [hk6] at this
    omega
  · refine ⟨p, ?_⟩
    unfold parseS
    rw [h1, if_neg (fun h => h rfl)]
    show outM (allM g (ts ++ [_])) = _
    rw [sim_whole hG.allOk hx]
    rfl
theorem text_long {bs : List UInt8} (g : Bool) (h : 2000 < bs.length) : parseS g bs = ([], 0, 4) := by
  unfold parseS lexS
  rw [if_pos h]
  rfl

/-! ### as many brackets as the bytes have -/
theorem piece_par {c : UInt8} {r : List UInt8} {n : Nat} {t : Option (Nat × List UInt8 × Nat)} {p : Nat} (h : piece c r = some (n, t)) : pc (tokAt p t) + ((c :: r).drop n).count 40 ≤ (c :: r).count 40 := by
  have hdrop : ((c :: r).drop n).count 40 ≤ (c :: r).count 40 := (List.drop_sublist n (c :: r)).count_le 40
  have key : ∀ k tx v, t = some (k, tx, v) → tx ≠ [40] → pc (tokAt p t) = 0 := fun k tx v e hne => by
    subst e
    show pc [⟨k, tx, v, p⟩] = 0
    unfold pc
    rw [List.countP_cons_of_neg (by rw [decide_eq_true_eq]; exact hne)]
    rfl
  unfold piece at h
  split at h
  · cases h
    show 0 + _ ≤ _
    omega
  · split at h
    · next hs =>
      split at h
      · cases h
      · cases h
        rw [key _ _ _ rfl (fun e => ?_)]
        · omega
        · have h1 := run_pos (words := true) (c := c) (r := r) (small_word hs)
          obtain ⟨m, hm⟩ : ∃ m, run true (c :: r) = m + 1 := ⟨run true (c :: r) - 1, by omega⟩
          rw [hm, List.take_succ_cons] at e
          injection e with e
          subst e
          revert hs
          decide
    · split at h
      · split at h
        · cases h
        · cases h
          rw [key _ _ _ rfl (by decide)]
          omega
      · split at h
        · cases h
          rw [key _ _ _ rfl (by decide)]
          omega
        · split at h
          · cases h
            by_cases hc : c = 40
            · subst hc
              rw [List.count_cons_self]
              show pc [⟨3, [40], 0, p⟩] + r.count 40 ≤ _
              have : pc [⟨3, [40], 0, p⟩] = 1 := rfl
              omega
            · rw [key _ _ _ rfl (fun e => hc (by injection e))]
              omega
          · cases h
theorem lex_count : ∀ (f p : Nat) (bs : List UInt8) (ts : List Tk), lexF f p bs = .ok ts → pc ts ≤ bs.count 40
  | f, p, [], ts, h => by
    have e : lexF f p [] = .ok [⟨0, [], 0, p⟩] := by cases f <;> rfl
    rw [e] at h
    injection h with h
    subst h
    exact Nat.le_of_eq rfl
  | 0, p, c :: r, ts, h => by cases h
  | f + 1, p, c :: r, ts, h => by
    unfold lexF at h
    split at h
    · cases h
    · next n t hp =>
      cases hx : lexF f (p + n) ((c :: r).drop n) with
      | bad q => rw [hx] at h; cases h
      | ok us =>
        rw [hx] at h
        have h : Res.ok (tokAt p t ++ us) = .ok ts := h
        injection h with h
        subst h
        have h1 := lex_count f (p + n) _ us hx
        have h2 := piece_par (p := p) hp
        have h3 : pc (tokAt p t ++ us) = pc (tokAt p t) + pc us := List.countP_append ..
        omega
/-- A text that is read as nodes has no fewer brackets than theirs. -/
theorem parse_count {g : Bool} {bs : List UInt8} {l : List Nd} {p : Nat} (h : parseS g bs = (l, p, 0)) : (textL l).count 40 ≤ bs.count 40 := by
  unfold parseS at h
  split at h
  · next hc => injection h with _ h; injection h with _ h; exact absurd h hc
  · next hc =>
    have hc : (lexS bs).2.2 = 0 := Decidable.byContradiction hc
    obtain ⟨hG, -⟩ := lexS_good hc
    have hpc : pc (lexS bs).1 ≤ bs.count 40 := by
      unfold lexS at hc ⊢
      split
      · exact Nat.zero_le _
      · next hs =>
        rw [if_neg hs] at hc
        split
        · next us hx => exact lex_count _ _ _ _ hx
        · exact Nat.zero_le _
    obtain ⟨o, ho⟩ := (d_total (lexS bs).1.length).2 g (lvl g) 0 (St0 (lexS bs).1) (Nat.le_refl _) rfl
    rw [Nat.sub_self] at ho
    rw [sim_whole hG.allOk ho] at h
    have hM := d_may ho hG
    cases o with
    | bad c q =>
      have h : (([], q, c) : List Nd × Nat × Nat) = (l, p, 0) := h
      injection h with h1 h2
      injection h2 with h2 h3
      subst h3
      exact absurd rfl (d_code ho)
    | ok s' a =>
      obtain ⟨-, -, hg⟩ := hM
      have h : (if kindOf s'.rest = 0 then (s'.nodes, 0, 0) else (([], posOf s'.rest, 2) : List Nd × Nat × Nat)) = (l, p, 0) := h
      split at h
      · injection h with h1 h2
        subst h1
        obtain ⟨k, rfl, hu, hk, -⟩ := hg [] rfl
        have hu : mayUpTo s'.nodes s'.nodes.length = some [k] := hu
        have hm := may_of hu
        have ht := may_top hm
        rw [hu] at ht
        injection ht with ht
        injection ht with ht
        obtain ⟨k', hk1, -, hk3, -⟩ := d_low (F := s'.nodes) ho (List.prefix_refl _)
        have hkk : k' = k := by omega
        subst hkk
        have hst : (St0 (lexS bs).1).rest = (lexS bs).1 := rfl
        rw [hst] at hk3
        rw [textL_eq hm, ← ht]
        unfold cnt at hk3
        omega
      · injection h with h1 h2
        injection h2 with h2 h3
        cases h3

/-! ### brackets in pairs -/
/-- How deep one stands behind the bytes, if never below nought. -/
def goes : List UInt8 → Nat → Option Nat
  | [], d => some d
  | c :: r, d => if c = 40 then goes r (d + 1) else if c = 41 then (if d = 0 then none else goes r (d - 1)) else goes r d
def Bal (a : List UInt8) : Prop := ∀ r d, goes (a ++ r) d = goes r d
theorem Bal.app {a b : List UInt8} (h : Bal a) (k : Bal b) : Bal (a ++ b) := fun r d => by rw [List.append_assoc, h, k]
theorem NoPar.bal : ∀ {a : List UInt8}, NoPar a → Bal a
  | [], _ => fun _ _ => rfl
  | c :: a, h => fun r d => by
    have h1 := h c List.mem_cons_self
    show (if c = 40 then goes (a ++ r) (d + 1) else if c = 41 then (if d = 0 then none else goes (a ++ r) (d - 1)) else goes (a ++ r) d) = goes r d
    rw [if_neg h1.1, if_neg h1.2]
    exact NoPar.bal (fun x hx => h x (List.mem_cons_of_mem _ hx)) r d
theorem Bal.par {a : List UInt8} (h : Bal a) : Bal ([40] ++ a ++ [41]) := fun r d => by
  have e : [40] ++ a ++ [41] ++ r = 40 :: (a ++ (41 :: r)) := by simp
  rw [e]
  show (if (40 : UInt8) = 40 then goes (a ++ (41 :: r)) (d + 1) else _) = _
  rw [if_pos rfl, h]
  show (if (41 : UInt8) = 40 then _ else if (41 : UInt8) = 41 then (if d + 1 = 0 then none else goes r (d + 1 - 1)) else _) = _
  rw [if_neg (by decide), if_pos rfl, if_neg (by omega)]
  rfl
theorem txt_bal {l : List Nd} (h : mayL l = true) : ∀ (i : Nat), i < l.length → Bal (txt l i) := by
  intro i
  induction i using Nat.strongRecOn with
  | ind i ih =>
    intro hi
    obtain ⟨n, hn⟩ : ∃ n, l[i]? = some n := ⟨_, List.getElem?_eq_getElem hi⟩
    obtain ⟨hf, -, hk⟩ := kids_at h hn
    have hr : 1 ≤ n.kind ∧ n.kind ≤ 22 := by
      have hf' := hf
      unfold fieldsB at hf'
      rw [Bool.and_eq_true, kinds_range] at hf'
      exact hf'.1
    have hx : ∀ w t, t < i → Bal (kidX l n w t) := fun w t ht => by
      unfold kidX
      split
      · exact ih t ht (by omega)
      · exact (ih t ht (by omega)).par
    rw [txt_node hn]
    rcases hk with ⟨e, hc, -⟩ | ⟨t, e, hc, -, -, hti⟩ | ⟨t, u, e, hc, -, hle, -, htu, hui⟩
    · unfold kidsT
      rw [e]
      exact (shape0 hf hc).bal
    · rw [(kid_at0 hn e (by omega)).2]
      obtain ⟨a, b, ha, hb, e2⟩ := shape1 hr hc (kidX l n 0 t)
      rw [e2]
      exact (ha.bal.app (hx 0 t (by omega))).app hb.bal
    · rw [(kid_at1 hn e (by omega) (by omega)).2.2]
      obtain ⟨a, ha, e2⟩ := shape2 hc (kidX l n 0 t) (kidX l n 1 u)
      rw [e2]
      exact ((hx 0 t (by omega)).app ha.bal).app (hx 1 u (by omega))
theorem text_pairs {l : List Nd} (h : mayL l = true) : goes (textL l) 0 = some 0 := by
  have h0 := may_ne h
  have := txt_bal h (l.length - 1) (by omega) [] 0
  rw [List.append_nil, ← textL_eq h] at this
  exact this
theorem goes_drop : ∀ (k : Nat) (a : List UInt8) (d x : Nat), goes a d = some x → ∃ h, goes (a.drop k) h = some x
  | 0, a, d, x, h => ⟨d, h⟩
  | k + 1, [], d, x, h => ⟨d, h⟩
  | k + 1, c :: r, d, x, h => by
    rw [List.drop_succ_cons]
    unfold goes at h
    split at h
    · exact goes_drop k r _ x h
    · split at h
      · split at h
        · cases h
        · exact goes_drop k r _ x h
      · exact goes_drop k r _ x h
end Go.Proofs.YthcbgneoonekkaaGreatDoor.Show

namespace Go.Proofs.YthcbgneoonekkaaGreatDoor.Tree
open Go.RowKit Go.Proofs.YthcbgneoonekkaaGreatDoor.Ints

theorem nd_eq (x y : Nd) : decide (x = y) = (decide (x.kind = y.kind) && (decide (x.name = y.name) && (decide (x.lo = y.lo ∧ x.hi = y.hi) && decide (x.kids = y.kids)))) := by
  cases x; cases y
  simp only [Nd.mk.injEq, Bool.decide_and, Bool.and_assoc]
theorem str_beq (a b : ByteArray) : (a.toList == b.toList) = decide (a = b) := by
  rw [Bool.eq_iff_iff, beq_iff_eq, decide_eq_true_iff, ByteArray.toList_eq, ByteArray.toList_eq]
  exact ⟨fun h => ByteArray.ext (Array.toList_inj.1 h), fun h => by rw [h]⟩
theorem nodes_ext {l m : List Nd} (hl : l.length = m.length) (h : ∀ j : Nat, j < l.length → l[j]? = m[j]?) : l = m := by
  apply List.ext_getElem?
  intro j
  by_cases hj : j < l.length
  · exact h j hj
  · rw [List.getElem?_eq_none (by omega), List.getElem?_eq_none (by omega)]

theorem same_no {a b : List Nd} {k : Nat} {x y : Nd} (hx : a[k]? = some x) (hy : b[k]? = some y) (h : x ≠ y) : decide (a = b) = false := by
  rw [decide_eq_false_iff_not]
  intro e
  rw [e, hy] at hx
  exact h (Option.some.inj hx).symm
theorem same_ways (x y : Nd) : ((x.kind != y.kind) = true ∧ x ≠ y) ∨ ((x.kind != y.kind) = false ∧ (x.name.toList == y.name.toList) = false ∧ (x.name.toList != y.name.toList) = true ∧ x ≠ y) ∨
    ((x.kind != y.kind) = false ∧ (x.name.toList == y.name.toList) = true ∧ (x.name.toList != y.name.toList) = false ∧ decide (x.lo = y.lo ∧ x.hi = y.hi) = false ∧ x ≠ y) ∨
    ((x.kind != y.kind) = false ∧ (x.name.toList == y.name.toList) = true ∧ (x.name.toList != y.name.toList) = false ∧ decide (x.lo = y.lo ∧ x.hi = y.hi) = true ∧ decide (x.kids = y.kids) = false ∧ x ≠ y) ∨
    ((x.kind != y.kind) = false ∧ (x.name.toList == y.name.toList) = true ∧ (x.name.toList != y.name.toList) = false ∧ decide (x.lo = y.lo ∧ x.hi = y.hi) = true ∧ decide (x.kids = y.kids) = true ∧ x = y) := by
  by_cases h1 : x.kind = y.kind
  · have e1 : (x.kind != y.kind) = false := by rw [h1]; simp
    by_cases h2 : x.name = y.name
    · have e2 : (x.name.toList == y.name.toList) = true := by rw [str_beq]; exact decide_eq_true h2
      have e2' : (x.name.toList != y.name.toList) = false := by rw [bne, e2]; rfl
      by_cases h3 : x.lo = y.lo ∧ x.hi = y.hi
      · by_cases h4 : x.kids = y.kids
        · refine Or.inr (Or.inr (Or.inr (Or.inr ⟨e1, e2, e2', decide_eq_true h3, decide_eq_true h4, ?_⟩)))
          cases x; cases y
          simp only at h1 h2 h3 h4
          rw [h1, h2, h3.1, h3.2, h4]
        · exact Or.inr (Or.inr (Or.inr (Or.inl ⟨e1, e2, e2', decide_eq_true h3, decide_eq_false h4, fun e => h4 (by rw [e])⟩)))
      · exact Or.inr (Or.inr (Or.inl ⟨e1, e2, e2', decide_eq_false h3, fun e => h3 (by rw [e]; exact ⟨rfl, rfl⟩)⟩))
    · have e2 : (x.name.toList == y.name.toList) = false := by rw [str_beq]; exact decide_eq_false h2
      exact Or.inr (Or.inl ⟨e1, e2, by rw [bne, e2]; rfl, fun e => h2 (by rw [e])⟩)
  · exact Or.inl ⟨bne_iff_ne.2 h1, fun e => h1 (by rw [e])⟩

set_option maxHeartbeats 8000000 in
set_option maxRecDepth 100000 in
theorem refSameNodes (A B : Option Addr) (n c m d : Nat) (a b : List Nd) (w : World) (ha : a.length = n) (hb : b.length = m) (hn : n ≤ 4194304) (hA : Nodes Any w A a) (hB : Nodes Any w B b) :
    Calls Tryz.prog 12 #[.slice A n c, .slice B m d] w fun e w' => e = .returned (.bool (decide (a = b))) ∧ Below w.heap.size w w' := by
  have hni : (n : Int) ≤ 4194304 := by omega
  have HLA := Lib.hid ha
  have HLB := Lib.hid hb
  have HNA := Lib.hid hA
  have HNB := Lib.hid hB
  clear ha hb hA hB hn
  by_cases hnm : n = m
  · subst hnm
    have hne : ((n : Int) != (n : Int)) = false := by simp
    go_enter Tryz.func12, Tryz.ntmps12
    go_wp2
    go_loopw [15] (fun i wr => ∃ k : Nat, k ≤ n ∧ i = .int .i64 k ∧ Below w.heap.size w wr ∧ Hid (∀ j : Nat, j < k → a[j]? = b[j]?)) (fun i _ => n - (intOf i).toNat)
    case atStart => exact ⟨0, Nat.zero_le _, rfl, Below.refl _ _, fun j hj => absurd hj (by omega)⟩
    case round =>
      obtain ⟨k, hk, rfl, hB, HZ⟩ := hrel
      have HB := Lib.hid hB
      clear hB
      by_cases hkn : k < n
      · have hkn' : (k : Int) < (n : Int) := by omega
        have hk0 : (0 : Int) ≤ (k : Int) := by omega
        obtain ⟨b1, off1, e1, hn1⟩ := (HNA.out.below HB.out) (by have := HLA.out; omega)
        obtain ⟨b2, off2, e2, hn2⟩ := (HNB.out.below HB.out) (by have := HLB.out; omega)
        obtain ⟨x, hx⟩ : ∃ x, a[k]? = some x := ⟨_, List.getElem?_eq_getElem (by have := HLA.out; omega)⟩
        obtain ⟨y, hy⟩ : ∃ y, b[k]? = some y := ⟨_, List.getElem?_eq_getElem (by have := HLB.out; omega)⟩
        obtain ⟨x0, x1, x2, x3, -, -, -, -, K1, c1, x4, hK1, hKc1, hcK1, -, -⟩ := hn1 k x hx
        obtain ⟨y0, y1, y2, y3, -, -, -, -, K2, c2, y4, hK2, hKc2, hcK2, -, -⟩ := hn2 k y hy
        rw [Nat.mul_comm 5 k] at x0 x1 x2 x3 x4 y0 y1 y2 y3 y4
        have HX := Lib.hid hx
        have HY := Lib.hid hy
        have HEQ := Lib.hid (fun W (hb : Below wr.heap.size wr W) => equalInts K1 K2 x.kids.length c1 y.kids.length c2 x.kids y.kids W (hK1.below hb) (hK2.below hb) (Nat.le_trans hKc1 hcK1) (Nat.le_trans hKc2 hcK2))
        subst e1
        subst e2
        clear hn1 hn2 hx hy hK1 hK2 hKc1 hKc2 hcK1 hcK2
        go_wp2
        go_region_held3 (fun w' => w'.cell? ⟨b1, off1 + k * 5, none⟩ = some (.int .i64 x.kind) ∧ w'.cell? ⟨b1, off1 + k * 5 + 1, none⟩ = some (.string x.name) ∧ w'.cell? ⟨b1, off1 + k * 5 + 2, none⟩ = some (.int .i64 x.lo) ∧ w'.cell? ⟨b1, off1 + k * 5 + 3, none⟩ = some (.int .i64 x.hi) ∧ w'.cell? ⟨b1, off1 + k * 5 + 4, none⟩ = some (.slice K1 x.kids.length c1) ∧
            w'.cell? ⟨b2, off2 + k * 5, none⟩ = some (.int .i64 y.kind) ∧ w'.cell? ⟨b2, off2 + k * 5 + 1, none⟩ = some (.string y.name) ∧ w'.cell? ⟨b2, off2 + k * 5 + 2, none⟩ = some (.int .i64 y.lo) ∧ w'.cell? ⟨b2, off2 + k * 5 + 3, none⟩ = some (.int .i64 y.hi) ∧ w'.cell? ⟨b2, off2 + k * 5 + 4, none⟩ = some (.slice K2 y.kids.length c2)) (go_keep) (fail)
        all_goals
          rcases same_ways x y with ⟨hk, h⟩ | ⟨hk, hm1, hm2, h⟩ | ⟨hk, hm1, hm2, hsp, h⟩ | ⟨hk, hm1, hm2, hsp, hkd, h⟩ | ⟨hk, hm1, hm2, hsp, hkd, h⟩
          · have HR := Lib.hid (same_no HX.out HY.out h)
            clear h
            go_wp2
            go_ret
            exact ⟨by rw [HR.out]; rfl, (((HB.out.alloc HB.out.size _).alloc (le_alloc HB.out.size) _)).drew⟩
          · have HR := Lib.hid (same_no HX.out HY.out h)
            clear h
            go_wp2
            go_ret
            exact ⟨by rw [HR.out]; rfl, (((HB.out.alloc HB.out.size _).alloc (le_alloc HB.out.size) _)).drew⟩
          · have HR := Lib.hid (same_no HX.out HY.out h)
            have hsq := fun W => span_neq x.lo x.hi y.lo y.hi W
            rw [hsp] at hsq
            have hgs := guardSpan
            clear h hsp
            go_wp2
            go_ret
            exact ⟨by rw [HR.out]; rfl, (((HB.out.alloc HB.out.size _).alloc (le_alloc HB.out.size) _)).drew⟩
          · have HR := Lib.hid (same_no HX.out HY.out h)
            have hsq := fun W => span_neq x.lo x.hi y.lo y.hi W
            rw [hsp] at hsq
            have hgs := guardSpan
            rw [hkd] at HEQ
            clear h hsp hkd
            go_wp2_with (go_at_call 21; refine (HEQ.out _ (((Below.refl _ _).alloc (Nat.le_refl _) _).alloc (le_alloc (Nat.le_refl _)) _ |>.drew)).mono ?_; rintro e w' ⟨rfl, q, rfl⟩)
            go_ret
            exact ⟨by rw [HR.out]; rfl, below_drewN ((HB.out.alloc HB.out.size _).alloc (le_alloc HB.out.size) _) _⟩
          · have HZ2 := Lib.hid (show ∀ j : Nat, j < k + 1 → a[j]? = b[j]? from fun j hj => by
              by_cases hjk : j = k
              · rw [hjk, HX.out, HY.out, h]
              · exact HZ.out j (by omega))
            have hsq := fun W => span_neq x.lo x.hi y.lo y.hi W
            rw [hsp] at hsq
            have hgs := guardSpan
            rw [hkd] at HEQ
            clear h hsp hkd
            go_wp2_with (go_at_call 21; refine (HEQ.out _ (((Below.refl _ _).alloc (Nat.le_refl _) _).alloc (le_alloc (Nat.le_refl _)) _ |>.drew)).mono ?_; rintro e w' ⟨rfl, q, rfl⟩)
            go_roundw
            case rel => exact ⟨k + 1, by omega, by go_num, below_drewN ((HB.out.alloc HB.out.size _).alloc (le_alloc HB.out.size) _) _, HZ2⟩
            case measure => simp [intOf]; omega
      · have hge : decide ((k : Int) < (n : Int)) = false := by simp; omega
        have HR := Lib.hid (show decide (a = b) = true from decide_eq_true (nodes_ext (by rw [HLA.out, HLB.out]) (fun j hj => HZ.out j (by have := HLA.out; omega))))
        go_wp2
        go_ret
        exact ⟨by rw [HR.out]; rfl, HB.out⟩
  · have hne : ((n : Int) != (m : Int)) = true := by simp; omega
    have HR := Lib.hid (show decide (a = b) = false from decide_eq_false fun e => hnm (by rw [← HLA.out, ← HLB.out, e]))
    clear hnm
    go_enter Tryz.func12, Tryz.ntmps12
    go_wp2
    go_ret
    exact ⟨by rw [HR.out]; rfl, Below.refl _ _⟩
end Go.Proofs.YthcbgneoonekkaaGreatDoor.Tree
