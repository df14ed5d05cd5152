/-
  What Lex tells is good for a reader: words, signs, numbers, one end. By an AI agent.
  Texts of formulas as tokens, piece by piece. By an AI agent.
  A formula's text is read as the formula: how deep it is nested; what its tokens are read as. By an AI agent.
-/
import Derived.Test.YtnoghlhggeffnaaDoorGParseMade14
import Derived.Test.YtnoghlhggeffnaaDoorGParseMade9
namespace Go.Proofs.YtnoghlhggeffnaaDoor.Parse
open Go.Proofs.YtnoghlhggeffnaaDoor.Lex Go.Proofs.YtnoghlhggeffnaaDoor.Tree

def GoodT : List Tk → Prop
  | [] => False
  | t :: r => (TokOk t ∧ t.num ≤ 9999 ∧ t.text.length ≤ 16) ∧ (t.kind = 0 ∧ r = [] ∨ t.kind ≠ 0 ∧ GoodT r)
theorem GoodT.split {ts : List Tk} (h : GoodT ts) : ∃ t r, ts = t :: r ∧ TokOk t ∧ t.num ≤ 9999 ∧ t.text.length ≤ 16 ∧ (t.kind = 0 ∧ r = [] ∨ t.kind ≠ 0 ∧ GoodT r) := by
  cases ts with
  | nil => exact h.elim
  | cons t r => exact ⟨t, r, rfl, h.1.1, h.1.2.1, h.1.2.2, h.2⟩
theorem GoodT.allOk : ∀ {ts : List Tk}, GoodT ts → AllOk ts
  | [], h => h.elim
  | t :: r, h => by
    intro u hu
    rcases List.mem_cons.1 hu with rfl | hu
    · exact h.1.1
    · rcases h.2 with ⟨-, rfl⟩ | ⟨-, h2⟩
      · cases hu
      · exact GoodT.allOk h2 u hu
theorem GoodT.tail {ts : List Tk} (h : GoodT ts) (hk : kindOf ts ≠ 0) : GoodT ts.tail := by
  obtain ⟨t, r, rfl, -, -, -, h1⟩ := h.split
  rcases h1 with ⟨h1, -⟩ | ⟨-, h1⟩
  · exact absurd h1 hk
  · exact h1
theorem GoodT.next {ts : List Tk} (h : GoodT ts) (ht : textOf ts ≠ []) : GoodT ts.tail := h.tail (kind_end h.allOk ht)
theorem GoodT.num {ts : List Tk} (h : GoodT ts) : numAt ts ≤ 9999 := by
  obtain ⟨t, r, rfl, -, h2, -, -⟩ := h.split
  exact h2
theorem GoodT.before : ∀ (l : List Tk) {m : List Tk}, (∀ t ∈ l, TokOk t ∧ t.num ≤ 9999 ∧ t.text.length ≤ 16 ∧ t.kind ≠ 0) → GoodT m → GoodT (l ++ m)
  | [], _, _, h => h
  | t :: l, m, h1, h => by
    obtain ⟨a, b, c, d⟩ := h1 t (by simp)
    exact ⟨⟨a, b, c⟩, Or.inr ⟨d, GoodT.before l (fun u hu => h1 u (by simp [hu])) h⟩⟩

theorem sign_small {c : UInt8} (h : isSign c = true) : small c = false := by
  simp only [isSign, signs, decide_eq_true_eq, List.mem_cons, List.not_mem_nil, or_false] at h
  simp only [small, decide_eq_false_iff_not]
  omega
theorem piece_tok_ok {c : UInt8} {r : List UInt8} {n k v : Nat} {tx : List UInt8} (h : piece c r = some (n, some (k, tx, v))) (p : Nat) : TokOk ⟨k, tx, v, p⟩ ∧ v ≤ 9999 ∧ tx.length ≤ 16 ∧ k ≠ 0 := by
  unfold piece at h
  split at h
  · cases h
  · split at h
    · next hs =>
      split at h
      · cases h
      · next h16 =>
        simp only [Option.some.injEq, Prod.mk.injEq] at h
        obtain ⟨-, rfl, rfl, rfl⟩ := h
        have hp : 1 ≤ run true (c :: r) := run_pos (words := true) (small_word hs)
        obtain ⟨q, hq⟩ : ∃ q, run true (c :: r) = q + 1 := ⟨run true (c :: r) - 1, by omega⟩
        rw [hq] at h16 ⊢
        refine ⟨Or.inr (Or.inl ⟨rfl, c, r.take q, rfl, hs⟩), by omega, ?_, by simp⟩
        rw [List.length_take]
        omega
    · split at h
      · split at h
        · cases h
        · next h4 =>
          simp only [Option.some.injEq, Prod.mk.injEq] at h
          obtain ⟨-, rfl, rfl, rfl⟩ := h
          refine ⟨Or.inr (Or.inr ⟨Or.inl rfl, rfl⟩), ?_, by simp, by simp⟩
          have := numOf_lt (run false (c :: r)) (c :: r) (Nat.le_refl _)
          have h5 : 10 ^ run false (c :: r) ≤ 10 ^ 4 := Nat.pow_le_pow_right (by omega) (by omega)
          have h6 : (10 : Nat) ^ 4 = 10000 := by decide
          omega
      · split at h
        · simp only [Option.some.injEq, Prod.mk.injEq] at h
          obtain ⟨-, rfl, rfl, rfl⟩ := h
          exact ⟨Or.inl ⟨rfl, 45, [62], rfl, by decide⟩, by omega, by simp, by simp⟩
        · split at h
          · next hs =>
            simp only [Option.some.injEq, Prod.mk.injEq] at h
            obtain ⟨-, rfl, rfl, rfl⟩ := h
            exact ⟨Or.inl ⟨rfl, c, [], rfl, sign_small hs⟩, by omega, by simp, by simp⟩
          · cases h
theorem lexF_good : ∀ (f p : Nat) (bs : List UInt8) (l : List Tk), lexF f p bs = .ok l → GoodT l := by
  intro f
  have he : ∀ p, GoodT [⟨0, [], 0, p⟩] := fun p => ⟨⟨Or.inr (Or.inr ⟨Or.inr rfl, rfl⟩), Nat.zero_le _, Nat.zero_le _⟩, Or.inl ⟨rfl, rfl⟩⟩
  induction f with
  | zero =>
    intro p bs l h
    cases bs with
    | nil => simp only [lexF, Res.ok.injEq] at h; rw [← h]; exact he p
    | cons c r => simp [lexF] at h
  | succ f ih =>
    intro p bs l h
    cases bs with
    | nil => simp only [lexF, Res.ok.injEq] at h; rw [← h]; exact he p
    | cons c r =>
      simp only [lexF] at h
      cases hp : piece c r with
      | none => rw [hp] at h; cases h
      | some x =>
        obtain ⟨n, t⟩ := x
        rw [hp] at h
        simp only at h
        cases hl : lexF f (p + n) ((c :: r).drop n) with
        | bad q => rw [hl] at h; cases h
        | ok m =>
          rw [hl] at h
          have hm := ih _ _ _ hl
          simp only [Res.before, Res.ok.injEq] at h
          rw [← h]
          refine GoodT.before _ (fun u hu => ?_) hm
          cases t with
          | none => cases hu
          | some y =>
            obtain ⟨k, tx, v⟩ := y
            rw [List.mem_singleton.1 hu]
            exact piece_tok_ok hp p
theorem lexS_good {bs : List UInt8} (h : (lexS bs).2.2 = 0) : GoodT (lexS bs).1 ∧ (lexS bs).1.length ≤ 2001 := by
  unfold lexS at h ⊢
  split at h
  · cases h
  · next hn =>
    rw [if_neg hn]
    cases hl : lexAt 0 bs with
    | bad p => rw [hl] at h; cases h
    | ok l => exact ⟨lexF_good _ _ _ _ hl, by have := lexF_len _ _ _ _ hl; show l.length ≤ 2001; omega⟩
end Go.Proofs.YtnoghlhggeffnaaDoor.Parse

namespace Go.Proofs.YtnoghlhggeffnaaDoor.Show
open Go.Proofs.YtnoghlhggeffnaaDoor.Tree Go.Proofs.YtnoghlhggeffnaaDoor.Lex Go.Proofs.YtnoghlhggeffnaaDoor.Parse

/-- What stands behind is no part of a word. -/
def Ends (r : List UInt8) : Prop := ∀ c, r.head? = some c → wordB c = false
/-- These bytes are tokens of which P says something, if no word goes on behind them; LexAny: whatever stands behind them. -/
def LexTo (bs : List UInt8) (P : List Tk → Prop) : Prop := ∀ p r, Ends r → ∃ ts, P ts ∧ lexAt p (bs ++ r) = (lexAt (p + bs.length) r).before ts
def LexAny (bs : List UInt8) (P : List Tk → Prop) : Prop := ∀ p r, ∃ ts, P ts ∧ lexAt p (bs ++ r) = (lexAt (p + bs.length) r).before ts
def Cat (P Q : List Tk → Prop) (ts : List Tk) : Prop := ∃ u v, ts = u ++ v ∧ P u ∧ Q v
section
variable {a b : List UInt8} {P Q : List Tk → Prop}
theorem LexAny.to (h : LexAny a P) : LexTo a P := fun p r _ => h p r
theorem LexTo.mono (h : LexTo a P) (hq : ∀ ts, P ts → Q ts) : LexTo a Q := fun p r he => by
  obtain ⟨ts, h1, h2⟩ := h p r he
  exact ⟨ts, hq ts h1, h2⟩
theorem LexAny.mono (h : LexAny a P) (hq : ∀ ts, P ts → Q ts) : LexAny a Q := fun p r => by
  obtain ⟨ts, h1, h2⟩ := h p r
  exact ⟨ts, hq ts h1, h2⟩
theorem before_cat (u v : List Tk) (x : Res) : (x.before v).before u = x.before (u ++ v) := before_before u v x
theorem LexAny.cat (h : LexAny a P) (k : LexAny b Q) : LexAny (a ++ b) (Cat P Q) := fun p r => by
  obtain ⟨u, h1, h2⟩ := h p (b ++ r)
  obtain ⟨v, k1, k2⟩ := k (p + a.length) r
  refine ⟨u ++ v, ⟨u, v, rfl, h1, k1⟩, ?_⟩
  rw [List.append_assoc, h2, k2, before_cat, List.length_append, Nat.add_assoc]
theorem LexAny.catTo (h : LexAny a P) (k : LexTo b Q) : LexTo (a ++ b) (Cat P Q) := fun p r he => by
  obtain ⟨u, h1, h2⟩ := h p (b ++ r)
  obtain ⟨v, k1, k2⟩ := k (p + a.length) r he
  refine ⟨u ++ v, ⟨u, v, rfl, h1, k1⟩, ?_⟩
  rw [List.append_assoc, h2, k2, before_cat, List.length_append, Nat.add_assoc]
/-- b begins with what is no part of a word. -/
def Apart1 (b : List UInt8) : Prop := ∃ c r, b = c :: r ∧ wordB c = false
theorem Apart1.ends {r : List UInt8} (h : Apart1 b) : Ends (b ++ r) := fun c hc => by
  obtain ⟨d, q, rfl, hd⟩ := h
  have hc : some d = some c := hc
  injection hc with hc
  rw [← hc]; exact hd
theorem LexTo.cat (h : LexTo a P) (k : LexAny b Q) (hb : Apart1 b) : LexAny (a ++ b) (Cat P Q) := fun p r => by
  obtain ⟨u, h1, h2⟩ := h p (b ++ r) hb.ends
  obtain ⟨v, k1, k2⟩ := k (p + a.length) r
  refine ⟨u ++ v, ⟨u, v, rfl, h1, k1⟩, ?_⟩
  rw [List.append_assoc, h2, k2, before_cat, List.length_append, Nat.add_assoc]
theorem LexTo.catTo (h : LexTo a P) (k : LexTo b Q) (hb : Apart1 b) : LexTo (a ++ b) (Cat P Q) := fun p r he => by
  obtain ⟨u, h1, h2⟩ := h p (b ++ r) hb.ends
  obtain ⟨v, k1, k2⟩ := k (p + a.length) r he
  refine ⟨u ++ v, ⟨u, v, rfl, h1, k1⟩, ?_⟩
  rw [List.append_assoc, h2, k2, before_cat, List.length_append, Nat.add_assoc]
end
/-- One token, but for its place. -/
def Tok (k : Nat) (tx : List UInt8) (v : Nat) (ts : List Tk) : Prop := ∃ p, ts = [⟨k, tx, v, p⟩]
def NoTok (ts : List Tk) : Prop := ts = []
theorem lex_blank : LexAny [32] NoTok := fun p r => ⟨[], rfl, by
  rw [before_nil]
  exact lexAt_blank p r (by decide)⟩
theorem lex_sign {c : UInt8} (hb : Lex.blank c = false) (hs : small c = false) (hg : digit c = false) (h45 : c.toNat ≠ 45) (hc : isSign c = true) : LexAny [c] (Tok 3 [c] 0) := fun p r => ⟨_, ⟨p, rfl⟩, by
  show lexAt p (c :: r) = _
  rw [lexAt_go p ((piece_sign hb hs hg h45).1 hc)]
  rfl⟩
theorem lex_arrow : LexAny [45, 62] (Tok 3 [45, 62] 0) := fun p r => ⟨_, ⟨p, rfl⟩, by
  show lexAt p (45 :: 62 :: r) = _
  rw [lexAt_go p (piece_arrow (c := 45) (d := 62) (by decide) (by decide))]
  rfl⟩
theorem lex_word {c : UInt8} {t : List UInt8} (hs : small c = true) (ht : ∀ x ∈ c :: t, wordB x = true) (hl : t.length ≤ 15) : LexTo (c :: t) (Tok 1 (c :: t) 0) := fun p r he => ⟨_, ⟨p, rfl⟩, by
  have hrun : run true (c :: (t ++ r)) = t.length + 1 := run_stop (words := true) (c :: t) r ht he
  have hb : Lex.blank c = false := by
    simp only [small, decide_eq_true_eq] at hs
    simp only [Lex.blank, decide_eq_false_iff_not]
    omega
  show lexAt p (c :: (t ++ r)) = _
  rw [lexAt_go p ((piece_word hb hs hrun).2 (by omega))]
  have e1 : (c :: (t ++ r)).drop (t.length + 1) = r := by
    show (t ++ r).drop t.length = r
    rw [List.drop_append_of_le_length (Nat.le_refl _), List.drop_length, List.nil_append]
  have e2 : (c :: (t ++ r)).take (t.length + 1) = c :: t := by
    show c :: (t ++ r).take t.length = c :: t
    rw [List.take_append_of_le_length (Nat.le_refl _), List.take_length]
  rw [e1, e2]
  rfl⟩
theorem lex_num {v : Nat} (hv : v < 10000) : LexTo (Go.Lib.decDigits v) (Tok 2 [] v) := fun p r he => ⟨_, ⟨p, rfl⟩, by
  obtain ⟨c, t, h1, h2, h3, h4, h5⟩ := dec_split 3 v hv
  rw [h1]
  have hp := piece_num (r := r) h2 (fun x hx => by
    have := he x hx
    rw [← Bool.not_eq_true]
    intro h
    rw [digit_word h] at this
    cases this) h5 h4
  show lexAt p (c :: (t ++ r)) = _
  rw [lexAt_go p hp, h3]
  have e1 : (c :: (t ++ r)).drop (t.length + 1) = r := by
    show (t ++ r).drop t.length = r
    rw [List.drop_append_of_le_length (Nat.le_refl _), List.drop_length, List.nil_append]
  rw [e1]
  rfl⟩
theorem dec_list (v : Nat) : (Itoa.dec (v : Int)).data.toList = Go.Lib.decDigits v := by
  show (Go.Lib.itoa (v : Int)) = _
  exact Go.Lib.itoa_nonneg v
theorem list_app (a b : ByteArray) : (a ++ b).data.toList = a.data.toList ++ b.data.toList := by simp

/-! ### intervals -/
/-- The tokens of an interval. -/
def SpanTk (lo hi : Int) (sp : List Tk) : Prop := ∀ (k : Nat) (rest : List Tk), 8 ≤ k → k ≤ 17 → Parse.textOf rest ≠ [91] → spanM k (sp ++ rest) = .ok (lo, hi, rest)
theorem span_lex {lo hi : Int} (h : Ival.mayS lo hi = true) : LexTo (spanT lo hi) (SpanTk lo hi) ∧ (spanT lo hi = [] ∨ Apart1 (spanT lo hi)) := by
  unfold spanT
  by_cases h0 : lo = 0 ∧ hi = -1
  · rw [if_pos h0]
    refine ⟨fun p r _ => ⟨[], fun k rest k1 k2 hr => ?_, (before_nil _).symm⟩, Or.inl rfl⟩
    unfold spanM
    rw [if_neg (by omega), List.nil_append, if_pos hr, h0.1, h0.2]
  · rw [if_neg h0]
    have hm := h
    unfold Ival.mayS at h
    rw [decide_eq_true_eq] at h
    obtain ⟨a, rfl⟩ := Int.eq_ofNat_of_zero_le h.1
    have ha : a < 10000 := by omega
    have hb := (lex_sign (c := 91) (by decide) (by decide) (by decide) (by decide) (by decide)).catTo (lex_num ha)
    unfold Ival.textS
    rw [if_pos hm]
    by_cases h1 : hi = -1
    · rw [if_pos h1, list_app, list_app, dec_list]
      have hc : LexAny [44, 42, 93] (Cat (Tok 3 [44] 0) (Cat (Tok 3 [42] 0) (Tok 3 [93] 0))) :=
        (lex_sign (c := 44) (by decide) (by decide) (by decide) (by decide) (by decide)).cat ((lex_sign (c := 42) (by decide) (by decide) (by decide) (by decide) (by decide)).cat (lex_sign (c := 93) (by decide) (by decide) (by decide) (by decide) (by decide)))
      have hd := hb.cat hc ⟨44, [42, 93], rfl, by decide⟩
      refine ⟨hd.to.mono ?_, Or.inr ⟨91, _, rfl, by decide⟩⟩
      rintro ts ⟨u, v, rfl, ⟨u1, u2, rfl, ⟨p1, rfl⟩, ⟨p2, rfl⟩⟩, ⟨v1, v2, rfl, ⟨p3, rfl⟩, ⟨w1, w2, rfl, ⟨p4, rfl⟩, ⟨p5, rfl⟩⟩⟩⟩ k rest k1 k2 _
      unfold spanM
      rw [if_neg (by omega)]
      simp [Parse.textOf, kindOf, numAt, h1]
    · rw [if_neg h1, list_app, list_app, list_app, list_app, dec_list]
      obtain ⟨b, rfl⟩ := Int.eq_ofNat_of_zero_le (show 0 ≤ hi by omega)
      have hbb : b < 10000 := by omega
      rw [dec_list]
      have hc := (lex_sign (c := 44) (by decide) (by decide) (by decide) (by decide) (by decide)).catTo (lex_num hbb)
      have hd := (hb.catTo hc ⟨44, _, rfl, by decide⟩).cat (lex_sign (c := 93) (by decide) (by decide) (by decide) (by decide) (by decide)) ⟨93, [], rfl, by decide⟩
      have e : ({ data := #[91] } : ByteArray).data.toList ++ Go.Lib.decDigits a ++ ({ data := #[44] } : ByteArray).data.toList ++ Go.Lib.decDigits b ++ ({ data := #[93] } : ByteArray).data.toList = ([91] ++ Go.Lib.decDigits a) ++ ([44] ++ Go.Lib.decDigits b) ++ [93] := by simp
      rw [e]
      refine ⟨hd.to.mono ?_, Or.inr ⟨91, _, rfl, by decide⟩⟩
      rintro ts ⟨u, v, rfl, ⟨u1, u2, rfl, ⟨a1, a2, rfl, ⟨p1, rfl⟩, ⟨p2, rfl⟩⟩, ⟨v1, v2, rfl, ⟨p3, rfl⟩, ⟨p4, rfl⟩⟩⟩, ⟨p5, rfl⟩⟩ k rest k1 k2 _
      unfold spanM
      rw [if_neg (by omega)]
      have hab : ¬ b < a := by omega
      simp [Parse.textOf, kindOf, numAt, hab]
end Go.Proofs.YtnoghlhggeffnaaDoor.Show

namespace Go.Proofs.YtnoghlhggeffnaaDoor.Show
open Go.Proofs.YtnoghlhggeffnaaDoor.Tree Go.Proofs.YtnoghlhggeffnaaDoor.Lex Go.Proofs.YtnoghlhggeffnaaDoor.Parse

/-! ### how deep a text is nested -/
def deeper (k : Int) : Bool := decide (k = 4 ∨ (8 ≤ k ∧ k ≤ 13) ∨ k = 16 ∨ k = 17 ∨ k = 19)
def kidN (ds : List Nat) (l : List Nd) (n : Nd) (w : Nat) (k : Int) : Nat := ds.getD k.toNat 0 + if bare n.kind w (kindAt l k) = true then 0 else 1
def kidsN (ds : List Nat) (l : List Nd) (n : Nd) : Nat → List Int → Nat
  | _, [] => 0
  | w, k :: ks => max (kidN ds l n w k) (kidsN ds l n (w + 1) ks)
def nodeN (n : Nd) (x : Nat) : Nat := x + if deeper n.kind = true then 1 else 0
def nestsF (l : List Nd) : List Nd → List Nat → List Nat
  | [], ds => ds
  | n :: r, ds => nestsF l r (ds ++ [nodeN n (kidsN ds l n 0 n.kids)])
def nestsTo (l : List Nd) (k : Nat) : List Nat := nestsF l (l.take k) []
def nst (l : List Nd) (i : Nat) : Nat := (nestsTo l (i + 1)).getD i 0
def nestL (l : List Nd) : Nat := if mayL l = true then nst l (l.length - 1) else 0
theorem nestsF_append (l a b : List Nd) : ∀ ds, nestsF l (a ++ b) ds = nestsF l b (nestsF l a ds) := by
  induction a with
  | nil => intro ds; rfl
  | cons n r ih => intro ds; exact ih _
theorem nestsTo_succ {l : List Nd} {k : Nat} {n : Nd} (h : l[k]? = some n) : nestsTo l (k + 1) = nestsTo l k ++ [nodeN n (kidsN (nestsTo l k) l n 0 n.kids)] := by
  have hk := (List.getElem?_eq_some_iff.1 h).1
  unfold nestsTo
  rw [List.take_succ_eq_append_getElem hk, nestsF_append, (List.getElem?_eq_some_iff.1 h).2]
  rfl
theorem nestsTo_len {l : List Nd} : ∀ {k : Nat}, k ≤ l.length → (nestsTo l k).length = k
  | 0, _ => rfl
  | k + 1, h => by
    obtain ⟨n, hn⟩ : ∃ n, l[k]? = some n := ⟨_, List.getElem?_eq_getElem (by omega)⟩
    rw [nestsTo_succ hn, List.length_append, nestsTo_len (k := k) (by omega)]
    rfl
theorem nestsTo_low {l : List Nd} {j : Nat} : ∀ {k : Nat}, j < k → k ≤ l.length → (nestsTo l k).getD j 0 = nst l j
  | 0, h, _ => absurd h (Nat.not_lt_zero _)
  | k + 1, h, hk => by
    by_cases e : j = k
    · rw [e]; rfl
    · obtain ⟨n, hn⟩ : ∃ n, l[k]? = some n := ⟨_, List.getElem?_eq_getElem (by omega)⟩
      rw [nestsTo_succ hn, getD_left (by rw [nestsTo_len (by omega)]; omega)]
      exact nestsTo_low (by omega) (by omega)
theorem nst_node {l : List Nd} {i : Nat} {n : Nd} (h : l[i]? = some n) : nst l i = nodeN n (kidsN (nestsTo l i) l n 0 n.kids) := by
  have hi := (List.getElem?_eq_some_iff.1 h).1
  unfold nst
  rw [nestsTo_succ h, getD_last (by rw [nestsTo_len (by omega)])]
/-- How deep a kid's text is. -/
def kidD (l : List Nd) (n : Nd) (w t : Nat) : Nat := nst l t + if bare n.kind w (kindAt l (t : Int)) = true then 0 else 1
theorem kidN_at {l : List Nd} {n : Nd} {w t k : Nat} (h : t < k) (hk : k ≤ l.length) : kidN (nestsTo l k) l n w (t : Int) = kidD l n w t := by
  unfold kidN kidD
  rw [Int.toNat_natCast, nestsTo_low h hk]

/-! ### what tokens are read as -/
def NoOp (g : Bool) (L : Nat) (rest : List Tk) : Prop := (∀ L', L ≤ L' → L' < lvl g → opOf g L' (Parse.textOf rest) = 0) ∧ (g = true → Parse.textOf rest ≠ [42])
theorem NoOp.up {g : Bool} {L L' : Nat} {rest : List Tk} (h : NoOp g L rest) (hl : L ≤ L') : NoOp g L' rest := ⟨fun x hx => h.1 x (Nat.le_trans hl hx), h.2⟩
section
variable (l : List Nd)
def sz (k : Nat) : Nat := k + 1 - startL l k
def O (g : Bool) (δ k : Nat) (ts : List Tk) : Prop := ∀ (d made : Nat) (rest : List Tk), d + δ ≤ 40 → made + sz l k ≤ 200 → D (.opd g) d ⟨ts ++ rest, made, l.take (startL l k)⟩ (.ok ⟨rest, made + sz l k, l.take (k + 1)⟩ (k : Int))
def Q (g : Bool) (δ L k : Nat) (ts : List Tk) : Prop := ∀ (d made : Nat) (rest : List Tk) (o : Out), d + δ ≤ 40 → made + sz l k ≤ 200 → NoOp g (L + 1) rest → D (.ops g L (k : Int)) d ⟨rest, made + sz l k, l.take (k + 1)⟩ o → D (.row g L) d ⟨ts ++ rest, made, l.take (startL l k)⟩ o
def R (g : Bool) (δ L k : Nat) (ts : List Tk) : Prop := ∀ (d made : Nat) (rest : List Tk), d + δ ≤ 40 → made + sz l k ≤ 200 → NoOp g L rest → D (.row g L) d ⟨ts ++ rest, made, l.take (startL l k)⟩ (.ok ⟨rest, made + sz l k, l.take (k + 1)⟩ (k : Int))
def S (δ k : Nat) (ts : List Tk) : Prop := ∀ (d made : Nat) (rest : List Tk) (o : Out), d + δ ≤ 40 → made + sz l k ≤ 200 → D (.stars (k : Int)) d ⟨rest, made + sz l k, l.take (k + 1)⟩ o → D .rep d ⟨ts ++ rest, made, l.take (startL l k)⟩ o
end
section
variable {l : List Nd} {g : Bool} {δ L k : Nat} {ts : List Tk}
theorem Q.r (h : Q l g δ L k ts) (hL : L < lvl g) : R l g δ L k ts := fun d made rest hd hm hn => h d made rest _ hd hm (hn.up (Nat.le_succ _)) (.opsEnd (hn.1 L (Nat.le_refl _) hL))
theorem R.q (h : R l g δ (L + 1) k ts) (hL : L < lvl g) : Q l g δ L k ts := fun d made rest _ hd hm hn ho => .row hL (h d made rest hd hm hn) ho
theorem O.r4 (h : O l false δ k ts) : R l false δ 4 k ts := fun d made rest hd hm _ => .rowUn (h d made rest hd hm)
theorem O.s (h : O l true δ k ts) : S l δ k ts := fun d made rest _ hd hm ho => .rep (h d made rest hd hm) ho
theorem S.r2 (h : S l δ k ts) : R l true δ 2 k ts := fun d made rest hd hm hn => .rowRep (h d made rest _ hd hm (.starsEnd (hn.2 rfl)))
theorem Q.down : ∀ (m : Nat), Q l g δ (L + m) k ts → L + m < lvl g → Q l g δ L k ts
  | 0, h, _ => h
  | m + 1, h, hL => Q.down m (R.q (h.r hL) (by omega)) (by omega)
end
/-- What a node of rank r is read as, from its own tokens. -/
def Fit (l : List Nd) (g : Bool) (δ k : Nat) (ts : List Tk) (r : Int) : Prop :=
  if g = true then (if r ≤ 2 then Q l true δ (r - 1).toNat k ts else if r = 3 then S l δ k ts else O l true δ k ts)
  else if r ≤ 4 then Q l false δ (r - 1).toNat k ts else O l false δ k ts
section
variable {l : List Nd} {g : Bool} {δ k : Nat} {ts : List Tk} {r : Int}
theorem Fit.s (h : Fit l true δ k ts r) (hr : 3 ≤ r) : S l δ k ts := by
  unfold Fit at h
  rw [if_pos rfl, if_neg (by omega)] at h
  split at h
  · exact h
  · exact O.s h
theorem Fit.o (h : Fit l false δ k ts r) (hr : 5 ≤ r) : O l false δ k ts := by
  unfold Fit at h
  rw [if_neg (by decide), if_neg (by omega)] at h
  exact h
theorem Fit.q (h : Fit l g δ k ts r) {L : Nat} (hL : L < lvl g) (hr : (L : Int) + 1 ≤ r) : Q l g δ L k ts := by
  cases g
  · have hL4 : L < 4 := hL
    by_cases h4 : r ≤ 4
    · unfold Fit at h
      rw [if_neg (by decide), if_pos h4] at h
      obtain ⟨m, hm⟩ : ∃ m : Nat, (r - 1).toNat = L + m := ⟨(r - 1).toNat - L, by omega⟩
      rw [hm] at h
      exact Q.down m h (by show L + m < 4; omega)
    · have h3 : Q l false δ 3 k ts := R.q (L := 3) (O.r4 (h.o (by omega))) (by show 3 < 4; omega)
      obtain ⟨m, hm⟩ : ∃ m : Nat, 3 = L + m := ⟨3 - L, by omega⟩
      rw [hm] at h3
      exact Q.down m h3 (by show L + m < 4; omega)
  · have hL2 : L < 2 := hL
    by_cases h4 : r ≤ 2
    · unfold Fit at h
      rw [if_pos rfl, if_pos h4] at h
      obtain ⟨m, hm⟩ : ∃ m : Nat, (r - 1).toNat = L + m := ⟨(r - 1).toNat - L, by omega⟩
      rw [hm] at h
      exact Q.down m h (by show L + m < 2; omega)
    · have h3 : Q l true δ 1 k ts := R.q (L := 1) (S.r2 (h.s (by omega))) (by show 1 < 2; omega)
      obtain ⟨m, hm⟩ : ∃ m : Nat, 1 = L + m := ⟨1 - L, by omega⟩
      rw [hm] at h3
      exact Q.down m h3 (by show L + m < 2; omega)
/-- The row of the level above the operands' is the operand itself. -/
theorem Fit.rr (h : Fit l g δ k ts r) {L : Nat} (hL : L ≤ lvl g) (hr : (L : Int) + 1 ≤ r) : R l g δ L k ts := by
  by_cases h1 : L < lvl g
  · exact (h.q h1 hr).r h1
  · have e : L = lvl g := by omega
    subst e
    cases g
    · exact O.r4 (h.o (by have : ((4 : Nat) : Int) + 1 ≤ r := hr; omega))
    · exact S.r2 (h.s (by have : ((2 : Nat) : Int) + 1 ≤ r := hr; omega))
theorem fit_o (h : O l g δ k ts) (hr : if g = true then 4 ≤ r else 5 ≤ r) : Fit l g δ k ts r := by
  unfold Fit
  cases g
  · rw [if_neg (by decide)] at hr ⊢
    rw [if_neg (by omega)]; exact h
  · rw [if_pos rfl] at hr ⊢
    rw [if_neg (by omega), if_neg (by omega)]; exact h
/-- In brackets. -/
theorem par_o {p q : Nat} (h : R l g δ 0 k ts) : O l g (δ + 1) k (⟨3, [40], 0, p⟩ :: (ts ++ [⟨3, [41], 0, q⟩])) := fun d made rest hd hm => by
  have hd40 : d ≠ 40 := by omega
  have hn : NoOp g 0 (⟨3, [41], 0, q⟩ :: rest) := ⟨fun L' _ _ => by
    show (if (betwK g [41]).2 = L' + 1 then (betwK g [41]).1 else 0) = 0
    have e : betwK g [41] = (0, 0) := by cases g <;> decide
    rw [e]; split <;> rfl, fun _ => by show ([41] : List UInt8) ≠ [42]; decide⟩
  have h1 := h (d + 1) made (⟨3, [41], 0, q⟩ :: rest) (by omega) hm hn
  have e : (⟨3, [40], 0, p⟩ :: (ts ++ [⟨3, [41], 0, q⟩])) ++ rest = (⟨3, [40], 0, p⟩ : Tk) :: (ts ++ (⟨3, [41], 0, q⟩ :: rest)) := by simp
  rw [e]
  exact D.par (s := ⟨⟨3, [40], 0, p⟩ :: (ts ++ (⟨3, [41], 0, q⟩ :: rest)), made, l.take (startL l k)⟩) (s1 := ⟨⟨3, [41], 0, q⟩ :: rest, made + sz l k, l.take (k + 1)⟩) rfl hd40 h1 rfl
end
/-- It begins with a word or a sign, but with no bracket of an interval. -/
def Head (ts : List Tk) : Prop := ∃ t r, ts = t :: r ∧ t.text ≠ [91]
theorem Head.ne {ts rest : List Tk} (h : Head ts) : Parse.textOf (ts ++ rest) ≠ [91] := by
  obtain ⟨t, r, rfl, h2⟩ := h
  exact h2
theorem Head.app {ts rest : List Tk} (h : Head ts) : Head (ts ++ rest) := by
  obtain ⟨t, r, rfl, h2⟩ := h
  exact ⟨t, r ++ rest, rfl, h2⟩
/-- A node's own text. -/
def Own (l : List Nd) (i : Nat) (n : Nd) (ts : List Tk) : Prop := Fit l (regKind n.kind) (nst l i) i ts (rank n.kind) ∧ Head ts
/-- A kid's text, in brackets or not. -/
def KidP (l : List Nd) (g : Bool) (n : Nd) (w t : Nat) (ts : List Tk) : Prop := Fit l g (kidD l n w t) t ts (if bare n.kind w (kindAt l (t : Int)) = true then rank (kindAt l (t : Int)) else 6) ∧ Head ts
theorem kid_lex {l : List Nd} {n nt : Nd} {w t : Nat} {g : Bool} (ht : l[t]? = some nt) (hg : regKind nt.kind = g) (h : LexTo (txt l t) (Own l t nt)) : LexTo (kidX l n w t) (KidP l g n w t) := by
  have hk : kindAt l (t : Int) = nt.kind := by unfold kindAt; rw [Int.toNat_natCast, ht]; rfl
  unfold kidX
  by_cases hb : bare n.kind w (kindAt l (t : Int)) = true
  · rw [if_pos hb]
    refine h.mono fun ts ⟨h1, h2⟩ => ⟨?_, h2⟩
    unfold kidD
    rw [if_pos hb, if_pos hb, hk, ← hg]
    exact h1
  · rw [if_neg hb]
    have h1 := (((lex_sign (c := 40) (by decide) (by decide) (by decide) (by decide) (by decide)).catTo h).cat (lex_sign (c := 41) (by decide) (by decide) (by decide) (by decide) (by decide)) ⟨41, [], rfl, by decide⟩).to
    refine h1.mono ?_
    rintro ts ⟨u, v, rfl, ⟨u1, u2, rfl, ⟨p, rfl⟩, ⟨hf, -⟩⟩, ⟨q, rfl⟩⟩
    refine ⟨?_, ⟨_, _, rfl, by show ([40] : List UInt8) ≠ [91]; decide⟩⟩
    unfold kidD
    rw [if_neg hb, if_neg hb]
    rw [hg] at hf
    have hr : R l g (nst l t) 0 t u2 := hf.rr (Nat.zero_le _) (by have : 1 ≤ rank nt.kind := by { unfold rank; repeat' split <;> omega }; omega)
    have hrk := par_o (p := p) (q := q) hr
    have e : [(⟨3, [40], 0, p⟩ : Tk)] ++ u2 ++ [⟨3, [41], 0, q⟩] = ⟨3, [40], 0, p⟩ :: (u2 ++ [⟨3, [41], 0, q⟩]) := by simp
    rw [e]
    exact fit_o hrk (by cases g <;> decide)
end Go.Proofs.YtnoghlhggeffnaaDoor.Show
