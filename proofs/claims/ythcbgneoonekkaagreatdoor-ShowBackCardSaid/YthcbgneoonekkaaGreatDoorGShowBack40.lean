/-
  How many brackets a text has at least, how deep it is at least, to be read as these nodes; brackets that stand in pairs. By an AI agent.
-/
import Derived.Test.YthcbgneoonekkaaGreatDoorGShowBack37
import Derived.Test.YthcbgneoonekkaaGreatDoorGShowBack39
namespace Go.Proofs.YthcbgneoonekkaaGreatDoor.Show
open Go.Proofs.YthcbgneoonekkaaGreatDoor.Tree Go.Proofs.YthcbgneoonekkaaGreatDoor.Lex Go.Proofs.YthcbgneoonekkaaGreatDoor.Parse

/-! ### bytes that are no brackets -/
def NoPar (bs : List UInt8) : Prop := ∀ x ∈ bs, x ≠ 40 ∧ x ≠ 41
theorem NoPar.count {bs : List UInt8} (h : NoPar bs) : bs.count 40 = 0 := List.count_eq_zero.2 fun hm => (h 40 hm).1 rfl
theorem NoPar.nil : NoPar [] := fun x hx => by cases hx
theorem NoPar.app {a b : List UInt8} (h : NoPar a) (k : NoPar b) : NoPar (a ++ b) := fun x hx => (List.mem_append.1 hx).elim (h x) (k x)
theorem digit_par {x : UInt8} (h : digit x = true) : x ≠ 40 ∧ x ≠ 41 := by
  constructor <;> (rintro rfl; revert h; decide)
theorem wordB_par {x : UInt8} (h : wordB x = true) : x ≠ 40 ∧ x ≠ 41 := by
  constructor <;> (rintro rfl; revert h; decide)
theorem dec_par {v : Nat} (h : v < 10000) : NoPar (Itoa.dec (v : Int)).data.toList := by
  rw [dec_list]
  obtain ⟨c, t, h1, h2, -⟩ := dec_split 3 v (by omega)
  rw [h1]
  exact fun x hx => digit_par (h2 x hx)
theorem span_par (lo hi : Int) : NoPar (spanT lo hi) := by
  unfold spanT
  split
  · exact NoPar.nil
  · unfold Ival.textS
    split
    · next hm =>
      unfold Ival.mayS at hm
      rw [decide_eq_true_eq] at hm
      obtain ⟨a, rfl⟩ := Int.eq_ofNat_of_zero_le hm.1
      have h1 := dec_par (v := a) (by omega)
      have e1 : NoPar ((ByteArray.mk #[91]).data.toList) := by show ∀ x ∈ ([91] : List UInt8), x ≠ 40 ∧ x ≠ 41; decide
      have e2 : NoPar ((ByteArray.mk #[44, 42, 93]).data.toList) := by show ∀ x ∈ ([44, 42, 93] : List UInt8), x ≠ 40 ∧ x ≠ 41; decide
      have e3 : NoPar ((ByteArray.mk #[44]).data.toList) := by show ∀ x ∈ ([44] : List UInt8), x ≠ 40 ∧ x ≠ 41; decide
      have e4 : NoPar ((ByteArray.mk #[93]).data.toList) := by show ∀ x ∈ ([93] : List UInt8), x ≠ 40 ∧ x ≠ 41; decide
      split
      · rw [list_app, list_app]
        exact (e1.app h1).app e2
      · next hh =>
        obtain ⟨b, rfl⟩ := Int.eq_ofNat_of_zero_le (show (0 : Int) ≤ hi by omega)
        rw [list_app, list_app, list_app, list_app]
        exact (((e1.app h1).app e3).app (dec_par (v := b) (by omega))).app e4
    · exact NoPar.nil
theorem word_par (n : Nd) : NoPar (word n) := by
  unfold word
  split
  · refine NoPar.app ?_ (span_par _ _)
    by_cases hj : (n.kind - 8).toNat < 10
    · have : ∀ j : Fin 10, ∀ x ∈ words.getD j.1 [], x ≠ 40 ∧ x ≠ 41 := by decide
      exact this ⟨_, hj⟩
    · rw [List.getD_eq_getElem?_getD, List.getElem?_eq_none (by show 10 ≤ _; omega)]
      exact NoPar.nil
  · unfold sign NoPar
    repeat' split
    all_goals decide
theorem name_par {n : Nd} (h : fieldsB n = true) (h3 : n.kind = 3) : NoPar n.name.data.toList := by
  unfold fieldsB nameOkB at h
  rw [Bool.and_eq_true, Bool.and_eq_true, if_pos h3] at h
  obtain ⟨c, t, h1, -, h2, -⟩ := name_parts h.2.1
  rw [h1]
  exact fun x hx => wordB_par (h2 x hx)
theorem knd0 {k : Int} (hc : kidc k = 0) : k = 1 ∨ k = 2 ∨ k = 3 ∨ k = 18 := by
  unfold kidc none0 twos at hc
  simp only [List.mem_cons, List.not_mem_nil, or_false] at hc
  repeat' split at hc
  all_goals first | (exfalso; revert hc; decide) | omega
theorem knd1 {k : Int} (hr : 1 ≤ k ∧ k ≤ 22) (hc : kidc k = 1) : k = 4 ∨ k = 19 ∨ k = 22 ∨ (k = 16 ∨ k = 17) ∨ (8 ≤ k ∧ k ≤ 13) := by
  unfold kidc none0 twos at hc
  simp only [List.mem_cons, List.not_mem_nil, or_false] at hc
  repeat' split at hc
  all_goals first | (exfalso; revert hc; decide) | omega
theorem knd2 {k : Int} (hc : kidc k = 2) : k = 5 ∨ k = 6 ∨ k = 7 ∨ k = 20 ∨ k = 21 ∨ (k = 14 ∨ k = 15) := by
  unfold kidc none0 twos at hc
  simp only [List.mem_cons, List.not_mem_nil, or_false] at hc
  repeat' split at hc
  all_goals first | (exfalso; revert hc; decide) | omega
theorem shape0 {n : Nd} (hf : fieldsB n = true) (hc : kidc n.kind = 0) : NoPar (nodeT n []) := by
  unfold nodeT
  rcases knd0 hc with hk | hk | hk | hk
  · rw [if_pos hk]; unfold NoPar; decide
  · rw [if_neg (by omega), if_pos hk]; unfold NoPar; decide
  · rw [if_neg (by omega), if_neg (by omega), if_pos hk]; exact name_par hf hk
  · rw [if_neg (by omega), if_neg (by omega), if_neg (by omega), if_pos hk]; unfold NoPar; decide
theorem par_of (l : List UInt8) (h : ∀ x ∈ l, x ≠ 40 ∧ x ≠ 41) : NoPar l := h
theorem shape1 {n : Nd} (hr : 1 ≤ n.kind ∧ n.kind ≤ 22) (hc : kidc n.kind = 1) (K : List UInt8) : ∃ a b, NoPar a ∧ NoPar b ∧ nodeT n [K] = a ++ K ++ b := by
  unfold nodeT
  rcases knd1 hr hc with hk | hk | hk | hk | hk
  · exact ⟨[33], [], par_of _ (by decide), NoPar.nil, by rw [if_neg (by omega), if_neg (by omega), if_neg (by omega), if_neg (by omega), if_pos hk]; simp⟩
  · exact ⟨[63], [], par_of _ (by decide), NoPar.nil, by rw [if_neg (by omega), if_neg (by omega), if_neg (by omega), if_neg (by omega), if_neg (by omega), if_pos hk]; simp⟩
  · exact ⟨[], [42], NoPar.nil, par_of _ (by decide), by rw [if_neg (by omega), if_neg (by omega), if_neg (by omega), if_neg (by omega), if_neg (by omega), if_neg (by omega), if_pos hk]; simp⟩
  · exact ⟨word n ++ [32, 123], [125], (word_par n).app (par_of _ (by decide)), par_of _ (by decide), by rw [if_neg (by omega), if_neg (by omega), if_neg (by omega), if_neg (by omega), if_neg (by omega), if_neg (by omega), if_neg (by omega), if_pos hk]; simp⟩
  · exact ⟨word n ++ [32], [], (word_par n).app (par_of _ (by decide)), NoPar.nil, by rw [if_neg (by omega), if_neg (by omega), if_neg (by omega), if_neg (by omega), if_neg (by omega), if_neg (by omega), if_neg (by omega), if_neg (by omega), if_pos (show [K].length = 1 from rfl)]; simp⟩
theorem shape2 {n : Nd} (hc : kidc n.kind = 2) (K J : List UInt8) : ∃ a, NoPar a ∧ nodeT n [K, J] = K ++ a ++ J := by
  have := knd2 hc
  refine ⟨[32] ++ word n ++ [32], ((par_of [32] (by decide)).app (word_par n)).app (par_of [32] (by decide)), ?_⟩
  unfold nodeT
  rw [if_neg (by omega), if_neg (by omega), if_neg (by omega), if_neg (by omega), if_neg (by omega), if_neg (by omega), if_neg (by omega), if_neg (by omega), if_neg (show ¬ [K, J].length = 1 by show ¬ 2 = 1; omega)]
  simp

/-! ### how many brackets a node's text has, how deep it is -/
def cnt (F : List Nd) (k : Nat) : Nat := (txt F k).count 40
def rk (F : List Nd) (k : Nat) : Int := rank (kindAt F (k : Int))
def need (L : Nat) (r : Int) : Nat := if (L : Int) + 1 ≤ r then 0 else 1
theorem need_mono {L L' : Nat} (h : L ≤ L') (r : Int) : need L r ≤ need L' r := by unfold need; split <;> split <;> omega
theorem need_le (L : Nat) (r : Int) : need L r ≤ 1 := by unfold need; split <;> omega
theorem need_no {L : Nat} {r : Int} (h : (L : Int) + 1 ≤ r) : need L r = 0 := if_pos h
theorem kidX_count (F : List Nd) (n : Nd) (w t : Nat) : (kidX F n w t).count 40 = cnt F t + if bare n.kind w (kindAt F (t : Int)) = true then 0 else 1 := by
  unfold kidX cnt
  split
  · rfl
  · rw [List.count_append, List.count_append]
    have e1 : ([40] : List UInt8).count 40 = 1 := by decide
    have e2 : ([41] : List UInt8).count 40 = 0 := by decide
    rw [e1, e2]; omega
theorem at0 {F : List Nd} {i : Nat} {n : Nd} (hn : F[i]? = some n) (hf : fieldsB n = true) (hc : kidc n.kind = 0) (hk : n.kids = []) : cnt F i = 0 ∧ nst F i = 0 := by
  constructor
  · unfold cnt
    rw [txt_node hn]
    unfold kidsT
    rw [hk]
    exact (shape0 hf hc).count
  · rw [nst_node hn, hk]
    have : deeper n.kind = false := by
      unfold deeper
      rw [decide_eq_false_iff_not]
      have := knd0 hc
      omega
    unfold nodeN
    rw [this]
    rfl
theorem at1 {F : List Nd} {i t : Nat} {n : Nd} (hn : F[i]? = some n) (hr : 1 ≤ n.kind ∧ n.kind ≤ 22) (hc : kidc n.kind = 1) (hk : n.kids = [(t : Int)]) (ht : t < i) :
    cnt F i = cnt F t + (if bare n.kind 0 (kindAt F (t : Int)) = true then 0 else 1) ∧ nst F i = nst F t + (if bare n.kind 0 (kindAt F (t : Int)) = true then 0 else 1) + (if deeper n.kind = true then 1 else 0) := by
  obtain ⟨h1, h2⟩ := kid_at0 hn hk ht
  refine ⟨?_, h1⟩
  unfold cnt
  rw [txt_node hn, h2]
  obtain ⟨a, b, ha, hb, e⟩ := shape1 hr hc (kidX F n 0 t)
  rw [e, List.count_append, List.count_append, ha.count, hb.count, kidX_count]
  unfold cnt
  omega
theorem at2 {F : List Nd} {i t u : Nat} {n : Nd} (hn : F[i]? = some n) (hc : kidc n.kind = 2) (hk : n.kids = [(t : Int), (u : Int)]) (ht : t < i) (hu : u < i) :
    cnt F i = cnt F t + (if bare n.kind 0 (kindAt F (t : Int)) = true then 0 else 1) + (cnt F u + if bare n.kind 1 (kindAt F (u : Int)) = true then 0 else 1) ∧
      nst F i = max (nst F t + (if bare n.kind 0 (kindAt F (t : Int)) = true then 0 else 1)) (nst F u + if bare n.kind 1 (kindAt F (u : Int)) = true then 0 else 1) := by
  have hi := (List.getElem?_eq_some_iff.1 hn).1
  constructor
  · obtain ⟨-, -, h2⟩ := kid_at1 hn hk ht hu
    unfold cnt
    rw [txt_node hn, h2]
    obtain ⟨a, ha, e⟩ := shape2 hc (kidX F n 0 t) (kidX F n 1 u)
    rw [e, List.count_append, List.count_append, ha.count, kidX_count, kidX_count]
    unfold cnt
    omega
  · rw [nst_node hn, hk]
    show nodeN n (max (kidN (nestsTo F i) F n 0 (t : Int)) (max (kidN (nestsTo F i) F n 1 (u : Int)) 0)) = _
    rw [kidN_at ht (by omega), kidN_at hu (by omega)]
    have : deeper n.kind = false := by
      unfold deeper
      rw [decide_eq_false_iff_not]
      have := knd2 hc
      omega
    unfold nodeN kidD
    rw [this]
    simp only [Bool.false_eq_true, if_false]
    omega

/-! ### the grammar -/
def pc (ts : List Tk) : Nat := ts.countP fun t => decide (t.text = [40])
theorem pc_suffix {a b : List Tk} (h : a <:+ b) : pc a ≤ pc b := h.sublist.countP_le
theorem pc_tail (ts : List Tk) : pc ts.tail ≤ pc ts := pc_suffix (List.tail_suffix ts)
theorem pc_par {ts : List Tk} (h : Parse.textOf ts = [40]) : pc ts = pc ts.tail + 1 := by
  cases ts with
  | nil => cases h
  | cons t r =>
    have h : t.text = [40] := h
    unfold pc
    rw [List.countP_cons_of_pos (by rw [decide_eq_true_eq]; exact h)]
    rfl
theorem d_grow {nt : NT} {d : Nat} {s : St} {o : Out} (h : D nt d s o) : ∀ s1 a, o = .ok s1 a → s.nodes <+: s1.nodes := by
  have p1 : ∀ (l : List Nd) (n : Nd), l <+: l ++ [n] := fun l n => List.prefix_append _ _
  induction h with
  | rowUn _ ih => exact ih
  | rowRep _ ih => exact ih
  | row _ _ _ ih1 ih2 => intro s1 a e; exact (ih1 _ _ rfl).trans (ih2 s1 a e)
  | opsEnd _ => intro s1 a e; cases e; exact List.prefix_refl _
  | opsGo _ _ _ _ _ ih1 ih2 => intro s1 a e; exact (ih1 _ _ rfl).trans ((p1 _ _).trans (ih2 s1 a e))
  | rep _ _ ih1 ih2 => intro s1 a e; exact (ih1 _ _ rfl).trans (ih2 s1 a e)
  | starsEnd _ => intro s1 a e; cases e; exact List.prefix_refl _
  | starsGo _ _ _ ih => intro s1 a e; exact (p1 _ _).trans (ih s1 a e)
  | leaf _ _ => intro s1 a e; cases e; exact p1 _ _
  | @par g d s s1 a _ _ _ _ ih => intro s2 b e; cases e; exact ih s1 a rfl
  | pre _ _ _ _ _ ih => intro s1 a e; cases e; exact (ih _ _ rfl).trans (p1 _ _)
  | br _ _ _ _ _ _ _ ih => intro s1 a e; cases e; exact (ih _ _ rfl).trans (p1 _ _)
  | _ => intro s1 a e; cases e
theorem at_new {F l : List Nd} {n : Nd} (h : l ++ [n] <+: F) : F[l.length]? = some n := by
  obtain ⟨m, rfl⟩ := h
  rw [List.append_assoc, List.getElem?_append_right (Nat.le_refl _), Nat.sub_self]
  rfl
theorem op_rank {g : Bool} {l : Nat} {t : List UInt8} (h : opOf g l t ≠ 0) : rank (opOf g l t : Int) = (l : Int) + 1 ∧ kidc (opOf g l t : Int) = 2 := by
  have hb := opOf_some h
  obtain ⟨-, hk⟩ := op_kinds h
  obtain ⟨k, hk0⟩ : ∃ k, opOf g l t = k := ⟨_, rfl⟩
  rw [hk0] at hb hk ⊢
  unfold betwK at hb
  have e : (l : Int) + 1 = ((l + 1 : Nat) : Int) := by omega
  rw [e]
  rcases hk with ⟨rfl, hk⟩ | ⟨rfl, hk⟩
  · rw [if_neg (by decide)] at hb
    repeat' split at hb
    all_goals (injection hb with h1 h2; subst h1; rw [← h2])
    all_goals first | (exfalso; revert hk; decide) | exact ⟨by decide, by decide⟩
  · rw [if_pos rfl] at hb
    repeat' split at hb
    all_goals (injection hb with h1 h2; subst h1; rw [← h2])
    all_goals first | (exfalso; revert hk; decide) | exact ⟨by decide, by decide⟩
theorem bare_two {k c : Int} {l : Nat} (hk : kidc k = 2) (hr : rank k = (l : Int) + 1) : (if bare k 0 c = true then 0 else 1) = need l (rank c) ∧ (if bare k 1 c = true then 0 else 1) = need (l + 1) (rank c) := by
  have ha : arity k = 2 := by
    have := knd2 hk
    rcases this with rfl | rfl | rfl | rfl | rfl | rfl | rfl <;> decide
  unfold bare need
  rw [if_pos ha, if_pos ha, hr]
  constructor
  · by_cases h : (l : Int) + 1 ≤ rank c
    · rw [if_pos h, if_pos (by simp; omega)]
    · rw [if_neg h, if_neg (by simp; omega)]
  · by_cases h : ((l + 1 : Nat) : Int) + 1 ≤ rank c
    · rw [if_pos h, if_pos (by simp; omega)]
    · rw [if_neg h, if_neg (by simp; omega)]
theorem bare_pre {k c : Int} (hk : k = 4 ∨ (8 ≤ k ∧ k ≤ 13) ∨ k = 19) : (if bare k 0 c = true then 0 else 1) = need 4 (rank c) := by
  have e : k = 4 ∨ k = 8 ∨ k = 9 ∨ k = 10 ∨ k = 11 ∨ k = 12 ∨ k = 13 ∨ k = 19 := by omega
  have ha : ¬ arity k = 2 := by rcases e with rfl | rfl | rfl | rfl | rfl | rfl | rfl | rfl <;> decide
  have hb : bare k 0 c = decide (5 ≤ rank c) := by unfold bare; rw [if_neg ha, if_neg (by omega), if_neg (by omega)]
  rw [hb]
  unfold need
  by_cases h : (5 : Int) ≤ rank c
  · rw [if_pos (decide_eq_true h), if_pos (by omega)]
  · rw [if_neg (by rw [decide_eq_true_eq]; exact h), if_neg (by omega)]
theorem bare_star {c : Int} : (if bare 22 0 c = true then 0 else 1) = need 2 (rank c) := by
  have hb : bare 22 0 c = decide (3 ≤ rank c) := by unfold bare; rw [if_neg (by decide), if_neg (by decide), if_pos rfl]
  rw [hb]
  unfold need
  by_cases h : (3 : Int) ≤ rank c
  · rw [if_pos (decide_eq_true h), if_pos (by omega)]
  · rw [if_neg (by rw [decide_eq_true_eq]; exact h), if_neg (by omega)]
theorem bare_br {k c : Int} (hk : k = 16 ∨ k = 17) : bare k 0 c = true := by
  unfold bare
  rw [if_neg (by rcases hk with rfl | rfl <;> decide), if_pos hk]
/-- What is read from s on is no less than what its text needs. -/
def Low (F : List Nd) (L d : Nat) (s s' : St) (a : Int) : Prop := ∃ k : Nat, a = (k : Int) ∧ k < s'.nodes.length ∧ cnt F k + need L (rk F k) + pc s'.rest ≤ pc s.rest ∧ (d ≤ 40 → d + nst F k + need L (rk F k) ≤ 40)
def LowA (F : List Nd) (L d : Nat) (s s' : St) (a0 a : Int) : Prop := ∀ k0 : Nat, a0 = (k0 : Int) → k0 < s.nodes.length → ∃ k : Nat, a = (k : Int) ∧ k < s'.nodes.length ∧ cnt F k + need L (rk F k) + pc s'.rest ≤ cnt F k0 + need L (rk F k0) + pc s.rest ∧ (d ≤ 40 → d + nst F k0 + need L (rk F k0) ≤ 40 → d + nst F k + need L (rk F k) ≤ 40)
def LowP (F : List Nd) (nt : NT) (d : Nat) (s : St) : Out → Prop
  | .bad _ _ => True
  | .ok s' a => s'.nodes <+: F → match nt with
    | .row _ L => Low F L d s s' a
    | .opd g => Low F (if g = true then 3 else 4) d s s' a
    | .rep => Low F 2 d s s' a
    | .ops _ L a0 => LowA F L d s s' a0 a
    | .stars a0 => LowA F 2 d s s' a0 a
theorem d_low {F : List Nd} {nt : NT} {d : Nat} {s : St} {o : Out} (h : D nt d s o) : LowP F nt d s o := by
  induction h with
  | @rowUn d s o _ ih => cases o with
    | bad c p => trivial
    | ok s' a => exact ih
  | @rowRep d s o _ ih => cases o with
    | bad c p => trivial
    | ok s' a => exact ih
  | @row g l d s s1 a o hl h1 h2 ih1 ih2 => cases o with
    | bad c p => trivial
    | ok s' b =>
      intro hF
      obtain ⟨k, rfl, hk, hc, hn⟩ := ih1 ((d_grow h2 _ _ rfl).trans hF)
      obtain ⟨k', rfl, hk', hc', hn'⟩ := ih2 hF k rfl hk
      have hm := need_mono (Nat.le_add_right l 1) (rk F k)
      exact ⟨k', rfl, hk', by omega, fun hd => hn' hd (by have := hn hd; omega)⟩
  | opsEnd _ =>
    intro hF k0 e hk
    exact ⟨k0, e, hk, Nat.le_refl _, fun _ h => h⟩
  | @opsGo g l d s s2 a b lo hi r o h0 hm hs h1 h2 ih1 ih2 => cases o with
    | bad c p => trivial
    | ok s' x =>
      intro hF k0 e hk
      have hg2 := d_grow h2 _ _ rfl
      have hF2 : s2.nodes ++ [nd1 (opOf g l (Parse.textOf s.rest)) lo hi [a, b]] <+: F := hg2.trans hF
      obtain ⟨kb, rfl, hkb, hcb, hnb⟩ := ih1 ((List.prefix_append _ _).trans hF2)
      have hnew := at_new hF2
      obtain ⟨hr2, hc2⟩ := op_rank h0
      subst e
      have hpre : s.nodes <+: s2.nodes := d_grow h1 _ _ rfl
      have hk0 : k0 < s2.nodes.length := Nat.lt_of_lt_of_le hk hpre.length_le
      obtain ⟨hcn, hnn⟩ := at2 (t := k0) (u := kb) hnew hc2 rfl hk0 hkb
      obtain ⟨b0, b1⟩ := bare_two (c := kindAt F (k0 : Int)) hc2 hr2
      obtain ⟨-, b2⟩ := bare_two (c := kindAt F (kb : Int)) hc2 hr2
      have hkd : (nd1 (opOf g l (Parse.textOf s.rest)) lo hi [(k0 : Int), (kb : Int)]).kind = (opOf g l (Parse.textOf s.rest) : Int) := rfl
      rw [hkd, b0, b2] at hcn hnn
      obtain ⟨k', rfl, hk', hc', hn'⟩ := ih2 hF s2.nodes.length rfl (by show _ < (s2.nodes ++ [_]).length; rw [List.length_append]; simp)
      have hrk : rk F s2.nodes.length = (l : Int) + 1 := by
        unfold rk kindAt
        rw [Int.toNat_natCast, hnew]
        exact hr2
      rw [hrk, need_no (Int.le_refl _)] at hc' hn'
      have hsf := pc_suffix ((span_le hs).trans (List.tail_suffix _))
      have hc' : cnt F k' + need l (rk F k') + pc s'.rest ≤ cnt F s2.nodes.length + 0 + pc s2.rest := hc'
      have hcb : cnt F kb + need (l + 1) (rk F kb) + pc s2.rest ≤ pc r := hcb
      refine ⟨k', rfl, hk', ?_, fun hd hx => hn' hd ?_⟩
      · unfold rk at hcb ⊢
        unfold rk at hc'
        omega
      · have := hnb hd
        unfold rk at this hx
        omega
  | @rep d s s1 a o h1 h2 ih1 ih2 => cases o with
    | bad c p => trivial
    | ok s' b =>
      intro hF
      obtain ⟨k, rfl, hk, hc, hn⟩ := ih1 ((d_grow h2 _ _ rfl).trans hF)
      obtain ⟨k', rfl, hk', hc', hn'⟩ := ih2 hF k rfl hk
      have hm := need_mono (show 2 ≤ 3 by decide) (rk F k)
      rw [if_pos rfl] at hc hn
      exact ⟨k', rfl, hk', by omega, fun hd => hn' hd (by have := hn hd; omega)⟩
  | starsEnd _ =>
    intro hF k0 e hk
    exact ⟨k0, e, hk, Nat.le_refl _, fun _ h => h⟩
  | @starsGo d s a o ht hm h1 ih => cases o with
    | bad c p => trivial
    | ok s' x =>
      intro hF k0 e hk
      have hg2 := d_grow h1 _ _ rfl
      have hF2 : s.nodes ++ [nd1 22 0 0 [a]] <+: F := hg2.trans hF
      have hnew := at_new hF2
      subst e
      obtain ⟨hcn, hnn⟩ := at1 (t := k0) hnew (show 1 ≤ (22 : Int) ∧ (22 : Int) ≤ 22 by decide) (show kidc 22 = 1 by decide) rfl hk
      have hkd : (nd1 22 0 0 [(k0 : Int)]).kind = 22 := rfl
      rw [hkd, bare_star] at hcn hnn
      obtain ⟨k', rfl, hk', hc', hn'⟩ := ih hF s.nodes.length rfl (by show _ < (s.nodes ++ [_]).length; rw [List.length_append]; simp)
      have hrk : rk F s.nodes.length = 3 := by
        unfold rk kindAt
        rw [Int.toNat_natCast, hnew]
        rfl
      rw [hrk, need_no (L := 2) (r := 3) (by decide)] at hc' hn'
      have hsf := pc_tail s.rest
      have hc' : cnt F k' + need 2 (rk F k') + pc s'.rest ≤ cnt F s.nodes.length + 0 + pc s.rest.tail := hc'
      have hdp : (if deeper 22 = true then 1 else 0) = 0 := by decide
      rw [hdp] at hnn
      refine ⟨k', rfl, hk', ?_, fun hd hx => hn' hd ?_⟩
      · unfold rk at hc' ⊢
        omega
      · unfold rk at hx
        omega
  | @leaf g d s n hl hm =>
    intro hF
    have hnew := at_new hF
    obtain ⟨-, hc, hk, hf, hr⟩ := leaf_kinds hl
    obtain ⟨h1, h2⟩ := at0 hnew hf hc hk
    have hrk : rk F s.nodes.length = rank n.kind := by
      unfold rk kindAt
      rw [Int.toNat_natCast, hnew]
      rfl
    have hnd : need (if g = true then 3 else 4) (rk F s.nodes.length) = 0 := by
      rw [hrk]
      have := knd0 hc
      cases g
      · rcases this with e | e | e | e
        · rw [e]; decide
        · rw [e]; decide
        · rw [e]; decide
        · rw [e] at hr; exact absurd hr (by decide)
      · rcases this with e | e | e | e
        · rw [e] at hr; exact absurd hr (by decide)
        · rw [e] at hr; exact absurd hr (by decide)
        · rw [e] at hr; exact absurd hr (by decide)
        · rw [e]; decide
    have := pc_tail s.rest
    exact ⟨s.nodes.length, rfl, by show _ < (s.nodes ++ [n]).length; rw [List.length_append]; simp, by rw [h1, hnd]; show 0 + 0 + pc s.rest.tail ≤ _; omega, fun hd => by rw [h2, hnd]; omega⟩
  | @par g d s s1 a ht hd h1 ht2 ih =>
    intro hF
    obtain ⟨k, rfl, hk, hc, hn⟩ := ih hF
    have h2 := pc_par ht
    have h3 := pc_tail s1.rest
    have h4 := need_le (if g = true then 3 else 4) (rk F k)
    have hc : cnt F k + need 0 (rk F k) + pc s1.rest ≤ pc s.rest.tail := hc
    refine ⟨k, rfl, hk, ?_, fun hd2 => ?_⟩
    · show cnt F k + need (if g = true then 3 else 4) (rk F k) + pc s1.rest.tail ≤ _
      omega
    · have := hn (by omega)
      omega
  | @pre g d s s1 a lo hi r h0 hd hm hs h1 ih =>
    intro hF
    obtain ⟨k, rfl, hk, hc, hn⟩ := ih ((List.prefix_append _ _).trans hF)
    have hnew := at_new hF
    obtain ⟨-, hpk⟩ := pre_kinds h0
    have hpk2 : (preOf g (Parse.textOf s.rest) : Int) = 4 ∨ (8 ≤ (preOf g (Parse.textOf s.rest) : Int) ∧ (preOf g (Parse.textOf s.rest) : Int) ≤ 13) ∨ (preOf g (Parse.textOf s.rest) : Int) = 19 := by omega
    have hkd : (nd1 (preOf g (Parse.textOf s.rest)) lo hi [(k : Int)]).kind = (preOf g (Parse.textOf s.rest) : Int) := rfl
    have hgk : (if g = true then (3 : Nat) else 4) = 3 ∧ (preOf g (Parse.textOf s.rest) : Int) = 19 ∨ (if g = true then (3 : Nat) else 4) = 4 ∧ (preOf g (Parse.textOf s.rest) : Int) ≠ 19 := by
      rcases hpk with ⟨rfl, h⟩ | ⟨rfl, h⟩
      · exact Or.inr ⟨rfl, by omega⟩
      · exact Or.inl ⟨rfl, by omega⟩
    obtain ⟨K, hK⟩ : ∃ K : Int, (preOf g (Parse.textOf s.rest) : Int) = K := ⟨_, rfl⟩
    rw [hK] at hpk2 hkd hgk
    have hkc : kidc K = 1 := by
      have e : K = 4 ∨ K = 8 ∨ K = 9 ∨ K = 10 ∨ K = 11 ∨ K = 12 ∨ K = 13 ∨ K = 19 := by omega
      rcases e with rfl | rfl | rfl | rfl | rfl | rfl | rfl | rfl <;> decide
    obtain ⟨hcn, hnn⟩ := at1 (t := k) hnew (by rw [hkd]; omega) (by rw [hkd]; exact hkc) rfl hk
    rw [hkd, bare_pre hpk2] at hcn hnn
    have hdp : (if deeper K = true then 1 else 0) = 1 := by
      unfold deeper
      rw [if_pos (by rw [decide_eq_true_eq]; omega)]
    rw [hdp] at hnn
    have hrk : rk F s1.nodes.length = rank K := by
      unfold rk kindAt
      rw [Int.toNat_natCast, hnew]
      exact congrArg rank hkd
    have hnd : need (if g = true then 3 else 4) (rk F s1.nodes.length) = 0 := by
      rw [hrk]
      rcases hgk with ⟨e1, e2⟩ | ⟨e1, e2⟩
      · rw [e1, e2]; decide
      · rw [e1]
        have e : K = 4 ∨ K = 8 ∨ K = 9 ∨ K = 10 ∨ K = 11 ∨ K = 12 ∨ K = 13 := by omega
        rcases e with rfl | rfl | rfl | rfl | rfl | rfl | rfl <;> decide
    have hsf := pc_suffix ((span_le hs).trans (List.tail_suffix _))
    have hc : cnt F k + need 4 (rk F k) + pc s1.rest ≤ pc r := hc
    have hn : d + 1 ≤ 40 → d + 1 + nst F k + need 4 (rk F k) ≤ 40 := hn
    unfold rk at hc hn
    refine ⟨s1.nodes.length, rfl, by show _ < (s1.nodes ++ [_]).length; rw [List.length_append]; simp, ?_, fun hd2 => ?_⟩
    · rw [hnd]; show _ + 0 + pc s1.rest ≤ _; omega
    · rw [hnd]
      have := hn (by omega)
      omega
  | @br g d s s1 a lo hi r h0 hm hs hb hd h1 hb2 ih =>
    intro hF
    obtain ⟨k, rfl, hk, hc, hn⟩ := ih ((List.prefix_append _ _).trans hF)
    have hnew := at_new hF
    obtain ⟨-, rfl, hbk⟩ := brace_kinds h0
    have hkd : (nd1 (braceOf false (Parse.textOf s.rest)) lo hi [(k : Int)]).kind = (braceOf false (Parse.textOf s.rest) : Int) := rfl
    obtain ⟨K, hK⟩ : ∃ K : Int, (braceOf false (Parse.textOf s.rest) : Int) = K := ⟨_, rfl⟩
    have hKK : K = 16 ∨ K = 17 := by omega
    rw [hK] at hkd
    have hkc : kidc K = 1 := by rcases hKK with rfl | rfl <;> decide
    obtain ⟨hcn, hnn⟩ := at1 (t := k) hnew (by rw [hkd]; omega) (by rw [hkd]; exact hkc) rfl hk
    rw [hkd, if_pos (bare_br hKK)] at hcn hnn
    have hdp : (if deeper K = true then 1 else 0) = 1 := by
      unfold deeper
      rw [if_pos (by rw [decide_eq_true_eq]; omega)]
    rw [hdp] at hnn
    have hrk : rk F s1.nodes.length = rank K := by
      unfold rk kindAt
      rw [Int.toNat_natCast, hnew]
      exact congrArg rank hkd
    have hnd : need (if false = true then 3 else 4) (rk F s1.nodes.length) = 0 := by
      rw [hrk]
      rcases hKK with rfl | rfl <;> decide
    have hsf := pc_suffix ((List.tail_suffix r).trans ((span_le hs).trans (List.tail_suffix _)))
    have hsg := pc_tail s1.rest
    have hc : cnt F k + need 0 (rk F k) + pc s1.rest ≤ pc r.tail := hc
    refine ⟨s1.nodes.length, rfl, by show _ < (s1.nodes ++ [_]).length; rw [List.length_append]; simp, ?_, fun hd2 => ?_⟩
    · rw [hnd]; show _ + 0 + pc s1.rest.tail ≤ _; omega
    · rw [hnd]
      have := hn (by omega)
      omega
  | _ => trivial
end Go.Proofs.YthcbgneoonekkaaGreatDoor.Show
