/-
  A formula's text is read as the formula. By an AI agent.
-/
import Derived.Test.YthcbgneoonekkaaGreatDoorGShowBack36
namespace Go.Proofs.YthcbgneoonekkaaGreatDoor.Show
open Go.Proofs.YthcbgneoonekkaaGreatDoor.Tree Go.Proofs.YthcbgneoonekkaaGreatDoor.Lex Go.Proofs.YthcbgneoonekkaaGreatDoor.Parse

theorem fit_q {l : List Nd} {g : Bool} {δ L k : Nat} {ts : List Tk} {r : Int} (h : Q l g δ L k ts) (hr : r = (L : Int) + 1) (hL : L < lvl g) : Fit l g δ k ts r := by
  unfold Fit
  cases g
  · have hL : L < 4 := hL
    rw [if_neg (by decide), if_pos (by omega), show (r - 1).toNat = L by omega]; exact h
  · have hL : L < 2 := hL
    rw [if_pos rfl, if_pos (by omega), show (r - 1).toNat = L by omega]; exact h
theorem fit_s {l : List Nd} {δ k : Nat} {ts : List Tk} (h : S l δ k ts) : Fit l true δ k ts 3 := by
  unfold Fit
  rw [if_pos rfl, if_neg (by omega), if_pos rfl]; exact h
/-- A timed word with its interval. -/
theorem timed_lex {c : UInt8} {t : List UInt8} {lo hi : Int} (hs : small c = true) (ht : ∀ x ∈ c :: t, wordB x = true) (hl : t.length ≤ 15) (hm : Ival.mayS lo hi = true) :
    LexTo ((c :: t) ++ spanT lo hi) (fun ts => ∃ p sp, ts = ⟨1, c :: t, 0, p⟩ :: sp ∧ SpanTk lo hi sp) := by
  obtain ⟨h1, h2⟩ := span_lex hm
  rcases h2 with h2 | h2
  · have hw := lex_word hs ht hl
    rw [h2, List.append_nil]
    rw [h2] at h1
    intro p r he
    obtain ⟨ts, ⟨q, e⟩, k2⟩ := hw p r he
    obtain ⟨sp, m1, m2⟩ := h1 0 [] (fun c hc => by cases hc)
    have e2 : sp = [] := by
      rw [List.nil_append, lexAt_nil] at m2
      cases sp with
      | nil => rfl
      | cons x y =>
        have := congrArg (fun r => match r with | Res.ok l => l.length | Res.bad _ => 0) m2
        simp [lexAt_nil, Res.before] at this
    subst e2
    exact ⟨ts, ⟨q, [], e, m1⟩, k2⟩
  · refine ((lex_word hs ht hl).catTo h1 h2).mono ?_
    rintro ts ⟨u, v, rfl, ⟨p, rfl⟩, hv⟩
    exact ⟨p, v, rfl, hv⟩
theorem span_r {k : Nat} {lo hi : Int} {sp : List Tk} (h : SpanTk lo hi sp) (h1 : 8 ≤ k) (h2 : k ≤ 17) : SpanR k lo hi sp := fun rest hr => h k rest h1 h2 hr
theorem kid_at0 {l : List Nd} {i t : Nat} {n : Nd} (hn : l[i]? = some n) (hk : n.kids = [(t : Int)]) (ht : t < i) : nst l i = kidD l n 0 t + (if deeper n.kind = true then 1 else 0) ∧ kidsT (textsTo l i) l n = [kidX l n 0 t] := by
  have hi := (List.getElem?_eq_some_iff.1 hn).1
  refine ⟨?_, ?_⟩
  · rw [nst_node hn, hk]
    show nodeN n (max (kidN (nestsTo l i) l n 0 (t : Int)) 0) = _
    rw [kidN_at ht (by omega), Nat.max_zero]
    rfl
  · unfold kidsT
    rw [hk]
    show [kidT (textsTo l i) l n 0 (t : Int)] = _
    rw [kidT_at ht (by omega)]
theorem kid_at1 {l : List Nd} {i t u : Nat} {n : Nd} (hn : l[i]? = some n) (hk : n.kids = [(t : Int), (u : Int)]) (ht : t < i) (hu : u < i) : kidD l n 0 t ≤ nst l i ∧ kidD l n 1 u ≤ nst l i ∧ kidsT (textsTo l i) l n = [kidX l n 0 t, kidX l n 1 u] := by
  have hi := (List.getElem?_eq_some_iff.1 hn).1
  have e : nst l i = max (kidD l n 0 t) (max (kidD l n 1 u) 0) + (if deeper n.kind = true then 1 else 0) := by
    rw [nst_node hn, hk]
    show nodeN n (max (kidN (nestsTo l i) l n 0 (t : Int)) (max (kidN (nestsTo l i) l n 1 (u : Int)) 0)) = _
    rw [kidN_at ht (by omega), kidN_at hu (by omega)]
    rfl
  refine ⟨by omega, by omega, ?_⟩
  unfold kidsT
  rw [hk]
  show [kidT (textsTo l i) l n 0 (t : Int), kidT (textsTo l i) l n 1 (u : Int)] = _
  rw [kidT_at ht (by omega), kidT_at hu (by omega)]
theorem kid_reg {l : List Nd} {n nt : Nd} {t : Nat} (hb : kidsB l n = true) (hm : (t : Int) ∈ n.kids) (ht : l[t]? = some nt) : regKind nt.kind = takesReg n.kind := by
  unfold kidsB at hb
  have := List.all_eq_true.1 hb _ hm
  rw [beq_iff_eq] at this
  rw [← this]
  unfold kindAt
  rw [Int.toNat_natCast, ht]
  rfl
theorem name_parts {L : List UInt8} (h : nameS L = true) : ∃ c t, L = c :: t ∧ small c = true ∧ (∀ x ∈ c :: t, wordB x = true) ∧ t.length ≤ 15 ∧ L ∉ reserved := by
  by_cases hl : L.length = 0 ∨ 16 < L.length
  · rw [name_not hl] at h; cases h
  · cases L with
    | nil => exact absurd (Or.inl rfl) hl
    | cons c t =>
      simp only [List.length_cons, not_or] at hl
      rw [name_is (by omega), Bool.and_eq_true, Bool.and_eq_true, decide_eq_true_eq, Bool.not_eq_true', decide_eq_false_iff_not] at h
      refine ⟨c, t, rfl, h.1.1, ?_, by omega, h.2⟩
      have hr := h.1.2
      unfold run at hr
      rw [if_pos rfl] at hr
      have e : (c :: t).takeWhile wordB = c :: t := (List.takeWhile_prefix _).eq_of_length (by rw [hr]; rfl)
      intro x hx
      have hall : ∀ (m : List UInt8), m.takeWhile wordB = m → ∀ x ∈ m, wordB x = true := by
        intro m
        induction m with
        | nil => intro _ x hx; cases hx
        | cons a r ih =>
          intro hm x hx
          by_cases ha : wordB a = true
          · rw [List.takeWhile_cons_of_pos ha] at hm
            injection hm with _ hm
            rcases List.mem_cons.1 hx with rfl | hx
            · exact ha
            · exact ih hm x hx
          · rw [List.takeWhile_cons_of_neg ha] at hm
            cases hm
      exact hall _ e x hx

section
variable {l : List Nd} {i : Nat} {n : Nd}
/-- The operand of a word or sign ahead. -/
theorem kid_o {t : Nat} {ts : List Tk} (hk : n.kind = 4 ∨ (8 ≤ n.kind ∧ n.kind ≤ 13) ∨ n.kind = 19) (h : KidP l false n 0 t ts) : O l false (kidD l n 0 t) t ts := by
  refine h.1.o ?_
  have hb : bare n.kind 0 (kindAt l (t : Int)) = decide (5 ≤ rank (kindAt l (t : Int))) := by
    have ha : arity n.kind ≠ 2 := by
      unfold arity none0 twos
      split
      · omega
      · split
        · next h1 => simp only [List.mem_cons, List.not_mem_nil, or_false] at h1; omega
        · split <;> omega
    unfold bare
    rw [if_neg ha, if_neg (by omega), if_neg (by omega)]
  rw [hb]
  split
  · next h1 => simpa using h1
  · omega
theorem kid_s {t : Nat} {ts : List Tk} (hk : n.kind = 22) (h : KidP l true n 0 t ts) : S l (kidD l n 0 t) t ts := by
  refine h.1.s ?_
  have hb : bare n.kind 0 (kindAt l (t : Int)) = decide (3 ≤ rank (kindAt l (t : Int))) := by
    have ha : arity n.kind ≠ 2 := by rw [hk]; decide
    unfold bare
    rw [if_neg ha, if_neg (by omega), if_pos hk]
  rw [hb]
  split
  · next h1 => simpa using h1
  · omega
theorem rank_pos (k : Int) : 1 ≤ rank k := by
  unfold rank
  repeat' split
  all_goals omega
theorem kid_r {g : Bool} {t : Nat} {ts : List Tk} (h : KidP l g n 0 t ts) : R l g (kidD l n 0 t) 0 t ts := by
  refine h.1.rr (Nat.zero_le _) ?_
  have := rank_pos (kindAt l (t : Int))
  split <;> omega
theorem kid_left {g : Bool} {L t : Nat} {ts : List Tk} (ha : arity n.kind = 2) (hr : rank n.kind = (L : Int) + 1) (hL : L < lvl g) (hL4 : L ≤ 3) (h : KidP l g n 0 t ts) : Q l g (kidD l n 0 t) L t ts := by
  refine h.1.q hL ?_
  split
  · next hb =>
    unfold bare at hb
    rw [if_pos ha, Bool.or_eq_true, Bool.and_eq_true, decide_eq_true_eq, decide_eq_true_eq, decide_eq_true_eq] at hb
    omega
  · omega
theorem kid_right {g : Bool} {L u : Nat} {ts : List Tk} (ha : arity n.kind = 2) (hr : rank n.kind = (L : Int) + 1) (hL : L < lvl g) (hL4 : L ≤ 3) (h : KidP l g n 1 u ts) : R l g (kidD l n 1 u) (L + 1) u ts := by
  refine h.1.rr hL ?_
  split
  · next hb =>
    unfold bare at hb
    rw [if_pos ha, Bool.or_eq_true, Bool.and_eq_true, decide_eq_true_eq, decide_eq_true_eq, decide_eq_true_eq] at hb
    omega
  · omega
end

/-- Each node's text is read as its part, whatever the texts of its kids are. -/
theorem own_all {l : List Nd} (h : mayL l = true) : ∀ (i : Nat) (n : Nd), l[i]? = some n → LexTo (txt l i) (Own l i n) := by
  intro i
  induction i using Nat.strongRecOn with
  | ind i ih =>
    intro n hn
    have hi := (List.getElem?_eq_some_iff.1 hn).1
    obtain ⟨hf, hkb, hsh⟩ := kids_at h hn
    have hsp := node_span hf
    have hrange : 1 ≤ n.kind ∧ n.kind ≤ 22 := by
      have := hf
      unfold fieldsB at this
      rw [Bool.and_eq_true, kinds_range] at this
      exact this.1
    rw [txt_node hn]
    rcases hsh with ⟨e0, e1, hs⟩ | ⟨t, e0, e1, hst, hle, hti⟩ | ⟨t, u, e0, e1, hst, hle, hsu, htu, hui⟩
    · have hkk : n.kind = 1 ∨ n.kind = 2 ∨ n.kind = 3 ∨ n.kind = 18 := by
        unfold kidc at e1
        split at e1
        · next h => simpa [none0] using h
        · split at e1 <;> cases e1
      rcases hkk with hkk | hkk | hkk | hkk
      · have e : nodeT n (kidsT (textsTo l i) l n) = [116, 114, 117, 101] := by unfold nodeT; rw [if_pos hkk]
        rw [hkk] at hsp
        have hq := node_eq (k := 1) hf hkk (by decide)
        rw [hsp.1, hsp.2, e0] at hq
        rw [e]
        exact own_leaf (g := false) (tx := [116, 114, 117, 101]) hn hs (by rw [hq]; rfl) (by rw [hkk]; rfl) (by rw [hkk]; decide) (by decide) (lex_word (c := 116) (t := [114, 117, 101]) (by decide) (by decide) (by decide))
      · have e : nodeT n (kidsT (textsTo l i) l n) = [102, 97, 108, 115, 101] := by unfold nodeT; rw [if_neg (by omega), if_pos hkk]
        rw [hkk] at hsp
        have hq := node_eq (k := 2) hf hkk (by decide)
        rw [hsp.1, hsp.2, e0] at hq
        rw [e]
        exact own_leaf (g := false) (tx := [102, 97, 108, 115, 101]) hn hs (by rw [hq]; rfl) (by rw [hkk]; rfl) (by rw [hkk]; decide) (by decide) (lex_word (c := 102) (t := [97, 108, 115, 101]) (by decide) (by decide) (by decide))
      · have e : nodeT n (kidsT (textsTo l i) l n) = n.name.data.toList := by unfold nodeT; rw [if_neg (by omega), if_neg (by omega), if_pos hkk]
        have hnm : nameS n.name.data.toList = true := by
          have := hf
          unfold fieldsB nameOkB at this
          rw [Bool.and_eq_true, Bool.and_eq_true, if_pos hkk] at this
          exact this.2.1
        obtain ⟨c, r, h1, h2, h3, h4, h5⟩ := name_parts hnm
        rw [hkk] at hsp
        have hq : n = ⟨3, Lex.bytes n.name.data.toList, 0, 0, []⟩ := by
          obtain ⟨kd, nm, lo, hi, ks⟩ := n
          have a1 : kd = 3 := hkk
          have a2 : lo = 0 := hsp.1
          have a3 : hi = 0 := hsp.2
          have a4 : ks = [] := e0
          subst a1; subst a2; subst a3; subst a4
          have : Lex.bytes nm.data.toList = nm := by
            apply ByteArray.ext
            apply Array.toList_inj.1
            simp [Lex.bytes]
          rw [this]
        rw [e]
        have hl : leafOf false n.name.data.toList = some n := by
          have r1 : n.name.data.toList ≠ [116, 114, 117, 101] := fun e => h5 (by rw [e]; decide)
          have r2 : n.name.data.toList ≠ [102, 97, 108, 115, 101] := fun e => h5 (by rw [e]; decide)
          unfold leafOf
          rw [if_neg (by decide), if_neg r1, if_neg r2, if_pos hnm, ← hq]
        rw [h1] at hl ⊢
        refine own_leaf (g := false) (tx := c :: r) hn hs hl (by rw [hkk]; rfl) (by rw [hkk]; decide) (fun e => ?_) (lex_word h2 h3 h4)
        injection e with e
        rw [e] at h2
        exact absurd h2 (by decide)
      · have e : nodeT n (kidsT (textsTo l i) l n) = [46] := by unfold nodeT; rw [if_neg (by omega), if_neg (by omega), if_neg (by omega), if_pos hkk]
        rw [hkk] at hsp
        have hq := node_eq (k := 18) hf hkk (by decide)
        rw [hsp.1, hsp.2, e0] at hq
        rw [e]
        exact own_leaf (g := true) (tx := [46]) hn hs (by rw [hq]; rfl) (by rw [hkk]; rfl) (by rw [hkk]; decide) (by decide) (lex_sign (c := 46) (by decide) (by decide) (by decide) (by decide) (by decide)).to
    · obtain ⟨nt, hnt⟩ : ∃ nt, l[t]? = some nt := ⟨_, List.getElem?_eq_getElem (by omega)⟩
      obtain ⟨hns, hkt⟩ := kid_at0 hn e0 (by omega)
      have hreg := kid_reg hkb (by rw [e0]; exact List.mem_singleton_self _) hnt
      have hkid := fun g (hg : takesReg n.kind = g) => kid_lex (w := 0) (n := n) hnt (hreg.trans hg) (ih t (by omega) nt hnt)
      rw [hkt]
      have hkk : n.kind = 4 ∨ n.kind = 19 ∨ n.kind = 22 ∨ n.kind = 16 ∨ n.kind = 17 ∨ n.kind = 8 ∨ n.kind = 9 ∨ n.kind = 10 ∨ n.kind = 11 ∨ n.kind = 12 ∨ n.kind = 13 := by
        unfold kidc at e1
        split at e1
        · cases e1
        · next h0 =>
          split at e1
          · cases e1
          · next h1 =>
            simp only [none0, twos, List.mem_cons, List.not_mem_nil, or_false, not_or] at h0 h1
            omega
      have pre : ∀ (g : Bool) (k : Nat) (c : UInt8) (r : List UInt8), n.kind = (k : Int) → k ≠ 3 → preOf g (c :: r) = k → (if g = true then 4 ≤ rank n.kind else 5 ≤ rank n.kind) → regKind n.kind = g → takesReg n.kind = false → deeper n.kind = true → (n.kind = 4 ∨ (8 ≤ n.kind ∧ n.kind ≤ 13) ∨ n.kind = 19) → (c :: r : List UInt8) ≠ [91] →
          ∀ (kk p : Nat) (sp ks : List Tk), SpanR k n.lo n.hi sp → KidP l false n 0 t ks → Own l i n (⟨kk, c :: r, 0, p⟩ :: (sp ++ ks)) := by
        intro g k c r h1 h2 h3 h4 h5 h6 h7 h8 h9 kk p sp ks hsr hkp
        refine ⟨?_, ⟨_, _, rfl, h9⟩⟩
        rw [h5]
        exact fit_o (own_pre hn hf h1 h2 e0 hst hle hti h3 hsr (kid_o h8 hkp) (by rw [hns, if_pos h7]; exact Nat.le_refl _) hkp.2) h4
      have tim : ∀ (k : Nat) (c : UInt8) (r : List UInt8), n.kind = (k : Int) → 8 ≤ k → k ≤ 13 → preOf false (c :: r) = k → words.getD (k - 8) [] = c :: r → small c = true → (∀ x ∈ c :: r, wordB x = true) → r.length ≤ 15 → LexTo (nodeT n [kidX l n 0 t]) (Own l i n) := by
        intro k c r h1 h2 h3 h4 h5 h6 h7 h8
        have htm : timed n.kind = true := by unfold timed; rw [decide_eq_true_eq]; omega
        rw [if_pos htm] at hsp
        have e : nodeT n [kidX l n 0 t] = (((c :: r) ++ spanT n.lo n.hi) ++ [32]) ++ kidX l n 0 t := by
          unfold nodeT
          rw [if_neg (by omega), if_neg (by omega), if_neg (by omega), if_neg (by omega), if_neg (by omega), if_neg (by omega), if_neg (by omega), if_neg (by omega), if_pos (show [kidX l n 0 t].length = 1 from rfl)]
          unfold word
          rw [if_pos htm, show (n.kind - 8).toNat = k - 8 by omega, h5]
          rfl
        rw [e]
        refine ((((timed_lex h6 h7 h8 hsp).cat lex_blank ⟨32, [], rfl, by decide⟩).catTo (hkid false (by unfold takesReg regs; simp; omega)))).mono ?_
        rintro ts ⟨u, v, rfl, ⟨u1, u2, rfl, ⟨p, sp, rfl, hs1⟩, rfl⟩, hv⟩
        have e2 : ((⟨1, c :: r, 0, p⟩ : Tk) :: sp) ++ [] ++ v = ⟨1, c :: r, 0, p⟩ :: (sp ++ v) := by simp
        rw [e2]
        refine pre false k c r h1 (by omega) h4 (by rw [if_neg (by decide)]; unfold rank; rw [if_neg (by omega), if_neg (by omega), if_neg (by omega), if_neg (by omega), if_pos (by omega)]; decide) (by unfold regKind; rw [decide_eq_false_iff_not]; omega) (by unfold takesReg regs; simp; omega) (by unfold deeper; rw [decide_eq_true_eq]; omega) (by omega) (fun e => ?_) 1 p sp v (span_r hs1 h2 (by omega)) hv
        injection e with e
        rw [e] at h6
        exact absurd h6 (by decide)
      have bra : ∀ (k : Nat) (c : UInt8) (r : List UInt8), n.kind = (k : Int) → 16 ≤ k → k ≤ 17 → braceOf false (c :: r) = k → words.getD (k - 8) [] = c :: r → small c = true → (∀ x ∈ c :: r, wordB x = true) → r.length ≤ 15 → LexTo (nodeT n [kidX l n 0 t]) (Own l i n) := by
        intro k c r h1 h2 h3 h4 h5 h6 h7 h8
        have htm : timed n.kind = true := by unfold timed; rw [decide_eq_true_eq]; omega
        rw [if_pos htm] at hsp
        have e : nodeT n [kidX l n 0 t] = ((((c :: r) ++ spanT n.lo n.hi) ++ ([32] ++ [123])) ++ kidX l n 0 t) ++ [125] := by
          unfold nodeT
          rw [if_neg (by omega), if_neg (by omega), if_neg (by omega), if_neg (by omega), if_neg (by omega), if_neg (by omega), if_neg (by omega), if_pos (by omega)]
          unfold word
          rw [if_pos htm, show (n.kind - 8).toNat = k - 8 by omega, h5]
          rfl
        rw [e]
        have hb : LexAny ([32] ++ [123]) (Cat NoTok (Tok 3 [123] 0)) := lex_blank.cat (lex_sign (c := 123) (by decide) (by decide) (by decide) (by decide) (by decide))
        refine (((((timed_lex h6 h7 h8 hsp).cat hb ⟨32, _, rfl, by decide⟩).catTo (hkid true (by unfold takesReg regs; simp; omega))).cat (lex_sign (c := 125) (by decide) (by decide) (by decide) (by decide) (by decide)) ⟨125, [], rfl, by decide⟩).to).mono ?_
        rintro ts ⟨u, v, rfl, ⟨u1, u2, rfl, ⟨u3, u4, rfl, ⟨p, sp, rfl, hs1⟩, ⟨u5, u6, rfl, rfl, ⟨q, rfl⟩⟩⟩, hv⟩, ⟨q', rfl⟩⟩
        have e2 : (((⟨1, c :: r, 0, p⟩ : Tk) :: sp) ++ ([] ++ [(⟨3, [123], 0, q⟩ : Tk)]) ++ u2) ++ [⟨3, [125], 0, q'⟩] = ⟨1, c :: r, 0, p⟩ :: (sp ++ (⟨3, [123], 0, q⟩ :: (u2 ++ [⟨3, [125], 0, q'⟩]))) := by simp
        rw [e2]
        refine ⟨?_, ⟨_, _, rfl, fun e => ?_⟩⟩
        · rw [show regKind n.kind = false by unfold regKind; rw [decide_eq_false_iff_not]; omega]
          refine fit_o (own_br hn hf h1 (by omega) e0 hst hle hti h4 (span_r hs1 (by omega) h3) (kid_r hv) (by rw [hns, if_pos (by unfold deeper; rw [decide_eq_true_eq]; omega)]; exact Nat.le_refl _)) ?_
          rw [if_neg (by decide)]
          unfold rank
          rw [if_neg (by omega), if_neg (by omega), if_neg (by omega), if_neg (by omega), if_neg (by omega)]
          decide
        · injection e with e
          rw [e] at h6
          exact absurd h6 (by decide)
      rcases hkk with hkk | hkk | hkk | hkk | hkk | hkk | hkk | hkk | hkk | hkk | hkk
      · have e : nodeT n [kidX l n 0 t] = [33] ++ kidX l n 0 t := by
          unfold nodeT
          rw [if_neg (by omega), if_neg (by omega), if_neg (by omega), if_neg (by omega), if_pos hkk]
          rfl
        rw [e]
        refine ((lex_sign (c := 33) (by decide) (by decide) (by decide) (by decide) (by decide)).catTo (hkid false (by rw [hkk]; decide))).mono ?_
        rintro ts ⟨u, v, rfl, ⟨p, rfl⟩, hv⟩
        have hs0 := hsp
        rw [if_neg (by rw [hkk]; decide)] at hs0
        exact pre false 4 33 [] hkk (by decide) (by decide) (by rw [hkk]; decide) (by rw [hkk]; rfl) (by rw [hkk]; decide) (by rw [hkk]; decide) (Or.inl hkk) (by decide) 3 p [] v (by rw [hs0.1, hs0.2]; exact span_plain (by omega)) hv
      · have e : nodeT n [kidX l n 0 t] = [63] ++ kidX l n 0 t := by
          unfold nodeT
          rw [if_neg (by omega), if_neg (by omega), if_neg (by omega), if_neg (by omega), if_neg (by omega), if_pos hkk]
          rfl
        rw [e]
        refine ((lex_sign (c := 63) (by decide) (by decide) (by decide) (by decide) (by decide)).catTo (hkid false (by rw [hkk]; decide))).mono ?_
        rintro ts ⟨u, v, rfl, ⟨p, rfl⟩, hv⟩
        have hs0 := hsp
        rw [if_neg (by rw [hkk]; decide)] at hs0
        exact pre true 19 63 [] hkk (by decide) (by decide) (by rw [hkk]; decide) (by rw [hkk]; rfl) (by rw [hkk]; decide) (by rw [hkk]; decide) (Or.inr (Or.inr hkk)) (by decide) 3 p [] v (by rw [hs0.1, hs0.2]; exact span_plain (by omega)) hv
      · have e : nodeT n [kidX l n 0 t] = kidX l n 0 t ++ [42] := by
          unfold nodeT
          rw [if_neg (by omega), if_neg (by omega), if_neg (by omega), if_neg (by omega), if_neg (by omega), if_neg (by omega), if_pos hkk]
          rfl
        rw [e]
        have hs0 := hsp
        rw [if_neg (by rw [hkk]; decide)] at hs0
        refine (((hkid true (by rw [hkk]; decide)).cat (lex_sign (c := 42) (by decide) (by decide) (by decide) (by decide) (by decide)) ⟨42, [], rfl, by decide⟩).to).mono ?_
        rintro ts ⟨u, v, rfl, hu, ⟨p, rfl⟩⟩
        refine ⟨?_, hu.2.app⟩
        rw [show regKind n.kind = true by rw [hkk]; rfl, show rank n.kind = 3 by rw [hkk]; rfl]
        exact fit_s (own_star hn hf hkk hs0 e0 hst hle hti (kid_s hkk hu) (by rw [hns]; exact Nat.le_add_right _ _))
      · exact bra 16 98 [97, 99, 107] hkk (by decide) (by decide) (by decide) rfl (by decide) (by decide) (by decide)
      · exact bra 17 102 [111, 114, 101] hkk (by decide) (by decide) (by decide) rfl (by decide) (by decide) (by decide)
      · exact tim 8 112 [114, 101, 118] hkk (by decide) (by decide) (by decide) rfl (by decide) (by decide) (by decide)
      · exact tim 9 110 [101, 120, 116] hkk (by decide) (by decide) (by decide) rfl (by decide) (by decide) (by decide)
      · exact tim 10 111 [110, 99, 101] hkk (by decide) (by decide) (by decide) rfl (by decide) (by decide) (by decide)
      · exact tim 11 104 [105, 115, 116] hkk (by decide) (by decide) (by decide) rfl (by decide) (by decide) (by decide)
      · exact tim 12 115 [111, 109, 101] hkk (by decide) (by decide) (by decide) rfl (by decide) (by decide) (by decide)
      · exact tim 13 97 [108, 108] hkk (by decide) (by decide) (by decide) rfl (by decide) (by decide) (by decide)
    · obtain ⟨nt, hnt⟩ : ∃ nt, l[t]? = some nt := ⟨_, List.getElem?_eq_getElem (by omega)⟩
      obtain ⟨nu, hnu⟩ : ∃ nu, l[u]? = some nu := ⟨_, List.getElem?_eq_getElem (by omega)⟩
      obtain ⟨hd0, hd1, hkt⟩ := kid_at1 hn e0 (by omega) (by omega)
      have hkid0 := fun g (hg : takesReg n.kind = g) => kid_lex (w := 0) (n := n) hnt ((kid_reg hkb (by rw [e0]; simp) hnt).trans hg) (ih t (by omega) nt hnt)
      have hkid1 := fun g (hg : takesReg n.kind = g) => kid_lex (w := 1) (n := n) hnu ((kid_reg hkb (by rw [e0]; simp) hnu).trans hg) (ih u (by omega) nu hnu)
      rw [hkt]
      have hkk : n.kind = 5 ∨ n.kind = 6 ∨ n.kind = 7 ∨ n.kind = 20 ∨ n.kind = 21 ∨ n.kind = 14 ∨ n.kind = 15 := by
        unfold kidc at e1
        split at e1
        · cases e1
        · split at e1
          · next h1 =>
            simp only [twos, List.mem_cons, List.not_mem_nil, or_false] at h1
            omega
          · cases e1
      have hpl : nodeT n [kidX l n 0 t, kidX l n 1 u] = (kidX l n 0 t ++ [32]) ++ word n ++ [32] ++ kidX l n 1 u := by
        unfold nodeT
        rw [if_neg (by omega), if_neg (by omega), if_neg (by omega), if_neg (by omega), if_neg (by omega), if_neg (by omega), if_neg (by omega), if_neg (by omega), if_neg (show ¬ [kidX l n 0 t, kidX l n 1 u].length = 1 by simp)]
        rfl
      rw [hpl]
      have two : ∀ (g : Bool) (k L kk : Nat) (tx : List UInt8), n.kind = (k : Int) → k ≠ 3 → L < lvl g → L ≤ 3 → betwK g tx = (k, L + 1) → tx ≠ [42] → regKind n.kind = g → takesReg n.kind = g → arity n.kind = 2 → rank n.kind = (L : Int) + 1 →
          LexTo (word n) (fun ts => ∃ p sp, ts = ⟨kk, tx, 0, p⟩ :: sp ∧ SpanR k n.lo n.hi sp) → (∃ c r, word n = c :: r) → LexTo ((kidX l n 0 t ++ [32]) ++ word n ++ [32] ++ kidX l n 1 u) (Own l i n) := by
        intro g k L kk tx h1 h2 h3 h4 h5 h6 h7 h8 h9 h10 hw _
        refine (((((hkid0 g h8).cat lex_blank ⟨32, [], rfl, by decide⟩).catTo hw).cat lex_blank ⟨32, [], rfl, by decide⟩).catTo (hkid1 g h8)).mono ?_
        rintro ts ⟨u1, v, rfl, ⟨u2, u3, rfl, ⟨u4, u5, rfl, ⟨u6, u7, rfl, h0, rfl⟩, ⟨p, sp, rfl, hs1⟩⟩, rfl⟩, hv⟩
        have e2 : ((u6 ++ []) ++ ((⟨kk, tx, 0, p⟩ : Tk) :: sp) ++ []) ++ v = u6 ++ (⟨kk, tx, 0, p⟩ :: (sp ++ v)) := by simp
        rw [e2]
        refine ⟨?_, h0.2.app⟩
        rw [h7]
        exact fit_q (own_two hn hf h1 h2 e0 hst hle hsu htu hui h3 h5 h6 hs1 (kid_left h9 h10 h3 h4 h0) (kid_right h9 h10 h3 h4 hv) hd0 hd1 hv.2) h10 h3
      have sgn : ∀ (k : Nat) (tx : List UInt8), n.kind = (k : Int) → (k < 8 ∨ 17 < k) → word n = tx → LexAny tx (Tok 3 tx 0) → LexTo (word n) (fun ts => ∃ p sp, ts = ⟨3, tx, 0, p⟩ :: sp ∧ SpanR k n.lo n.hi sp) := by
        intro k tx h1 h2 h3 h4
        rw [h3]
        have hs0 := hsp
        rw [if_neg (by unfold timed; rw [decide_eq_true_eq]; omega)] at hs0
        rw [hs0.1, hs0.2]
        exact h4.to.mono fun ts ⟨p, e⟩ => ⟨p, [], e, span_plain h2⟩
      have wrd : ∀ (k : Nat) (c : UInt8) (r : List UInt8), n.kind = (k : Int) → 14 ≤ k → k ≤ 15 → words.getD (k - 8) [] = c :: r → small c = true → (∀ x ∈ c :: r, wordB x = true) → r.length ≤ 15 → LexTo (word n) (fun ts => ∃ p sp, ts = ⟨1, c :: r, 0, p⟩ :: sp ∧ SpanR k n.lo n.hi sp) := by
        intro k c r h1 h2 h3 h5 h6 h7 h8
        have htm : timed n.kind = true := by unfold timed; rw [decide_eq_true_eq]; omega
        rw [if_pos htm] at hsp
        unfold word
        rw [if_pos htm, show (n.kind - 8).toNat = k - 8 by omega, h5]
        exact (timed_lex h6 h7 h8 hsp).mono fun ts ⟨p, sp, e, hs1⟩ => ⟨p, sp, e, span_r hs1 (by omega) (by omega)⟩
      have wsign : ∀ (tx : List UInt8), timed n.kind = false → sign n.kind = tx → word n = tx := fun tx h1 h2 => by
        unfold word
        rw [h1, if_neg (by decide), h2]
      rcases hkk with hkk | hkk | hkk | hkk | hkk | hkk | hkk
      · have hw := wsign [38] (by rw [hkk]; rfl) (by rw [hkk]; rfl)
        exact two false 5 2 3 [38] hkk (by decide) (by decide) (by decide) (by decide) (by decide) (by rw [hkk]; rfl) (by rw [hkk]; rfl) (by rw [hkk]; rfl) (by rw [hkk]; rfl) (sgn 5 [38] hkk (by omega) hw (lex_sign (c := 38) (by decide) (by decide) (by decide) (by decide) (by decide))) ⟨_, _, hw⟩
      · have hw := wsign [124] (by rw [hkk]; rfl) (by rw [hkk]; rfl)
        exact two false 6 1 3 [124] hkk (by decide) (by decide) (by decide) (by decide) (by decide) (by rw [hkk]; rfl) (by rw [hkk]; rfl) (by rw [hkk]; rfl) (by rw [hkk]; rfl) (sgn 6 [124] hkk (by omega) hw (lex_sign (c := 124) (by decide) (by decide) (by decide) (by decide) (by decide))) ⟨_, _, hw⟩
      · have hw := wsign [45, 62] (by rw [hkk]; rfl) (by rw [hkk]; rfl)
        exact two false 7 0 3 [45, 62] hkk (by decide) (by decide) (by decide) (by decide) (by decide) (by rw [hkk]; rfl) (by rw [hkk]; rfl) (by rw [hkk]; rfl) (by rw [hkk]; rfl) (sgn 7 [45, 62] hkk (by omega) hw lex_arrow) ⟨_, _, hw⟩
      · have hw := wsign [43] (by rw [hkk]; rfl) (by rw [hkk]; rfl)
        exact two true 20 0 3 [43] hkk (by decide) (by decide) (by decide) (by decide) (by decide) (by rw [hkk]; rfl) (by rw [hkk]; rfl) (by rw [hkk]; rfl) (by rw [hkk]; rfl) (sgn 20 [43] hkk (by omega) hw (lex_sign (c := 43) (by decide) (by decide) (by decide) (by decide) (by decide))) ⟨_, _, hw⟩
      · have hw := wsign [59] (by rw [hkk]; rfl) (by rw [hkk]; rfl)
        exact two true 21 1 3 [59] hkk (by decide) (by decide) (by decide) (by decide) (by decide) (by rw [hkk]; rfl) (by rw [hkk]; rfl) (by rw [hkk]; rfl) (by rw [hkk]; rfl) (sgn 21 [59] hkk (by omega) hw (lex_sign (c := 59) (by decide) (by decide) (by decide) (by decide) (by decide))) ⟨_, _, hw⟩
      · have hw := wrd 14 115 [105, 110, 99, 101] hkk (by decide) (by decide) rfl (by decide) (by decide) (by decide)
        exact two false 14 3 1 [115, 105, 110, 99, 101] hkk (by decide) (by decide) (by decide) (by decide) (by decide) (by rw [hkk]; rfl) (by rw [hkk]; rfl) (by rw [hkk]; rfl) (by rw [hkk]; rfl) hw ⟨115, [105, 110, 99, 101] ++ spanT n.lo n.hi, by unfold word; rw [hkk]; rfl⟩
      · have hw := wrd 15 117 [110, 116, 105, 108] hkk (by decide) (by decide) rfl (by decide) (by decide) (by decide)
        exact two false 15 3 1 [117, 110, 116, 105, 108] hkk (by decide) (by decide) (by decide) (by decide) (by decide) (by rw [hkk]; rfl) (by rw [hkk]; rfl) (by rw [hkk]; rfl) (by rw [hkk]; rfl) hw ⟨117, [110, 116, 105, 108] ++ spanT n.lo n.hi, by unfold word; rw [hkk]; rfl⟩
end Go.Proofs.YthcbgneoonekkaaGreatDoor.Show
