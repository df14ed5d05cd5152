/-
  The walks of the landed reader's read, Parse and Regex. By an AI agent.
  Texts of formulas as tokens, piece by piece. By an AI agent.
  A formula's text is read as the formula: how deep it is nested; what its tokens are read as. By an AI agent.
-/
import Derived.Test.YthcbgneoonekkaaGreatDoorGShowBack33
import Derived.Test.YthcbgneoonekkaaGreatDoorGShowBack34
import Derived.Test.YthcbgneoonekkaaGreatDoorGShowBack7
import Derived.Test.YthcbgneoonekkaaGreatDoorGShowBack26
import Derived.Test.YthcbgneoonekkaaGreatDoorGShowBack16
namespace Go.Proofs.YthcbgneoonekkaaGreatDoor.Parse
open Go.RowKit Go.Proofs.YthcbgneoonekkaaGreatDoor.Ints Go.Proofs.YthcbgneoonekkaaGreatDoor.Lex Go.Proofs.YthcbgneoonekkaaGreatDoor.Tree

/-- What Parse and Regex leave: the nodes, the place, the error. -/
def ParseGot (w : World) (x : List Nd × Nat × Nat) (e : Ending) (w' : World) : Prop :=
  ∃ A n c, e = .returned (.tuple #[.slice A n c, .int .i64 (x.2.1 : Int), .int .i64 (x.2.2 : Int)]) ∧ x.1.length = n ∧ Nodes Any w' A x.1 ∧ n ≤ c ∧ c ≤ maxLen ∧ Below w.heap.size w w'
theorem ParseGot.none {w w' : World} {x : List Nd × Nat × Nat} {p c : Nat} (hx : x = ([], p, c)) (hb : Below w.heap.size w w') : ParseGot w x (.returned (.tuple #[.slice none 0 0, .int .i64 (p : Int), .int .i64 (c : Int)])) w' := by
  subst hx
  exact ⟨_, _, _, rfl, rfl, Nodes.nil _ _ _, Nat.le_refl _, by decide, hb⟩
theorem start_mem {w : World} {tv : Value} {ts : List Tk} (g : Bool) (h : Toks w tv ts) :
    PMemE (Aw none) ((w.alloc (.cells #[.int .i64 0, .int .i64 0, .int .i64 0, .int .i64 0, .int .i64 0, .string { data := #[] }, .bool g, .int .i64 0] 69)).alloc (.cells #[tv, .int .i64 0, .bool false, .int .i64 0, .slice (some ⟨w.heap.size, 0, none⟩) 1 1, .slice none 0 0, .slice none 0 0] 72)) w.heap.size (w.heap.size + 1) ts (start g ts) := by
  have hb : Below w.heap.size w ((w.alloc (.cells #[.int .i64 0, .int .i64 0, .int .i64 0, .int .i64 0, .int .i64 0, .string { data := #[] }, .bool g, .int .i64 0] 69)).alloc (.cells #[tv, .int .i64 0, .bool false, .int .i64 0, .slice (some ⟨w.heap.size, 0, none⟩) 1 1, .slice none 0 0, .slice none 0 0] 72)) := ((Below.refl _ _).alloc (Nat.le_refl _) _).alloc (by simp) _
  have hblk := Blk.new (w.alloc (.cells #[.int .i64 0, .int .i64 0, .int .i64 0, .int .i64 0, .int .i64 0, .string { data := #[] }, .bool g, .int .i64 0] 69)) #[tv, .int .i64 0, .bool false, .int .i64 0, .slice (some ⟨w.heap.size, 0, none⟩) 1 1, .slice none 0 0, .slice none 0 0] 72 _ rfl
  have hsz : (w.alloc (.cells #[.int .i64 0, .int .i64 0, .int .i64 0, .int .i64 0, .int .i64 0, .string { data := #[] }, .bool g, .int .i64 0] 69)).heap.size = w.heap.size + 1 := by simp
  rw [hsz] at hblk
  refine ⟨tv, .slice (some ⟨w.heap.size, 0, none⟩) 1 1, .slice none 0 0, .slice none 0 0, [], ?_⟩
  refine ⟨?_, Nat.le_succ _, hb.size, h.keep hb, ?_, List.suffix_refl _, ?_, OwnNodes.nil _ _ _, rfl, World.ownsRow_nil _ _ _ _, (fun e => by have e : some w.heap.size = some (w.heap.size + 1) := e; injection e with e; omega), (fun e => by cases e), (fun e => by cases e), Or.inr (fun e => by cases e), Or.inr (fun e => by cases e), Or.inl rfl, (fun e => by cases e), (fun _ _ e => by cases e), (fun _ _ e => by cases e), (fun _ _ e => by cases e)⟩
  · have e : cellsP ts tv (.slice (some ⟨w.heap.size, 0, none⟩) 1 1) (.slice none 0 0) (.slice none 0 0) (start g ts) = [tv, .int .i64 0, .bool false, .int .i64 0, .slice (some ⟨w.heap.size, 0, none⟩) 1 1, .slice none 0 0, .slice none 0 0] := by
      unfold cellsP start
      simp only
      rw [Nat.sub_self]
      rfl
    rw [e]
    exact hblk
  · intro b hb'
    obtain ⟨A, c, h1, h2, -⟩ := h
    rw [h1] at hb'
    cases A with
    | none => cases hb'
    | some a =>
      have hb' : some a.block = some b := hb'
      injection hb' with hb'
      rw [← hb']
      exact h2 a rfl
  · refine ⟨rfl, Or.inr ⟨w.heap.size, 1, #[.int .i64 0, .int .i64 0, .int .i64 0, .int .i64 0, .int .i64 0, .string { data := #[] }, .bool g, .int .i64 0], rfl, Nat.le_refl _, ?_, Nat.le_refl _, by decide, rfl, rfl⟩⟩
    rw [Below.heap_alloc _ _ _ (by simp)]
    exact heap_alloc_new w _
theorem ent0_ok (g : Bool) : EntOk (ent0 g) := ⟨Or.inl ⟨rfl, rfl⟩, zero_small, zero_small, Nat.zero_le _, Nat.zero_le _⟩
theorem start_fit {g : Bool} {ts : List Tk} (h : GoodT ts) : Fit (ts.length + 1) (eOf (start g ts)) (start g ts) := by
  refine ⟨⟨fun x hx => ?_, ⟨[], g, rfl⟩, (fun z hz => by cases hz), rfl, ?_⟩, h, Nat.zero_le _⟩
  · rw [List.mem_singleton.1 hx]; exact ent0_ok g
  · show 1 + 0 + ts.length ≤ ts.length + 1
    omega
theorem parse_run {g : Bool} {bs : List UInt8} (h : (lexS bs).2.2 = 0) : parseS g bs = outM (runW (start g (lexS bs).1)) := by
  unfold parseS
  rw [if_neg (fun h' => h' h)]
  rfl

set_option maxHeartbeats 16000000 in
set_option maxRecDepth 100000 in
theorem landRead (s : ByteArray) (g : Bool) (w : World) (hs : s.size ≤ maxLen) :
    Calls Tryz.prog 14 #[.string s, .bool g] w (ParseGot w (parseS g s.data.toList)) := by
  have HX := Lib.hid (progLex s w hs)
  obtain ⟨L, hL⟩ : ∃ L, s.data.toList = L := ⟨_, rfl⟩
  rw [hL] at HX ⊢
  obtain ⟨ts, hts⟩ : ∃ ts, (lexS L).1 = ts := ⟨_, rfl⟩
  obtain ⟨p, hp⟩ : ∃ p, (lexS L).2.1 = p := ⟨_, rfl⟩
  obtain ⟨c, hc⟩ : ∃ c, (lexS L).2.2 = c := ⟨_, rfl⟩
  unfold LexGot at HX
  rw [hts, hp, hc] at HX
  by_cases hc0 : c = 0
  · subst hc0
    obtain ⟨hG, hlen⟩ := lexS_good hc
    rw [hts] at hG hlen
    have HG := Lib.hid hG
    have HLN := Lib.hid hlen
    have HP := Lib.hid (show parseS g L = outM (runW (start g ts)) by rw [parse_run hc, hts])
    clear hs hL hts hp hc hG hlen
    go_enter Tryz.func14, Tryz.ntmps14
    go_wp2_with fail
    refine HX.out.mono ?_
    rintro e w1 ⟨v, rfl, ht, hb⟩
    obtain ⟨VA, vc, hv, -, -⟩ := id ht
    subst hv
    have HT := Lib.hid ht
    have HB := Lib.hid hb
    clear ht hb
    go_wp2_with fail
    have hmem := start_mem g HT.out
    have hb2 := (HB.out.alloc HB.out.size (.cells #[.int .i64 0, .int .i64 0, .int .i64 0, .int .i64 0, .int .i64 0, .string { data := #[] }, .bool g, .int .i64 0] 69)).alloc (Lex.le_alloc HB.out.size) (.cells #[.slice VA ts.length vc, .int .i64 0, .bool false, .int .i64 0, .slice (some ⟨w1.heap.size, 0, none⟩) 1 1, .slice none 0 0, .slice none 0 0] 72)
    have HB2 := Lib.hid hb2
    have HBS := Lib.hid HB.out.size
    have HALL := Lib.hid (landAll w1.heap.size (w1.heap.size + 1) (ts.length + 1) ts (start g ts) _ hmem (start_fit HG.out) (by have := HLN.out; omega) (by have := HLN.out; omega))
    clear hmem hb2
    refine HALL.out.mono ?_
    intro e w2 h2
    rcases hr : runW (start g ts) with ⟨c, p⟩ | τ
    · rw [hr] at h2
      obtain ⟨hc0, rfl, ⟨τ, hg, hpos, hm⟩, hf⟩ := h2
      have hcn : ((c : Int) != 0) = true := by simp; omega
      obtain ⟨t, r, hrest, -, -, -, -⟩ := hg.split
      have HPO := Lib.hid (show parseS g L = ([], t.pos, c) by rw [HP.out, hr]; show ([], p, c) = _; rw [← hpos, hrest]; rfl)
      have HM2 := Lib.hid hm
      have HR := Lib.hid hrest
      have HF2 := Lib.hid (HB2.out.trans (hf.below.mono HBS.out))
      have q3 := fieldT3 t.kind (Lex.bytes t.text) t.num t.pos
      clear hg hpos hm hf hr hc0 hrest
      go_wp2_with fail
      refine (landTok w1.heap.size (w1.heap.size + 1) ts τ t r _ HM2.out HR.out (by have := HLN.out; omega)).mono ?_
      rintro e w3 ⟨rfl, hb3⟩
      have HB3 := Lib.hid (HF2.out.trans (hb3.mono HF2.out.size))
      clear hb3
      go_wp2_with fail
      go_ret3
      exact ParseGot.none HPO.out HB3.out
    · rw [hr] at h2
      obtain ⟨rfl, hm, hf⟩ := h2
      obtain ⟨tv, ov, nv, rv, SN, hm⟩ := hm
      obtain ⟨A, cc, hnv, hnodes, hle, hmx⟩ := (hm.nds.mono (S' := Any) fun _ _ _ => trivial).reads (fun _ _ _ => trivial)
      subst hnv
      rw [hm.ndl] at hnodes
      have hSN : SN.length = τ.nodes.length := by rw [← hm.ndl, List.length_map]
      rw [hSN] at hm hle
      have k5 := hm.blk.cell 5 rfl
      have HPO := Lib.hid (show parseS g L = (τ.nodes, 0, 0) by rw [HP.out, hr]; rfl)
      have HF2 := Lib.hid (HB2.out.trans (hf.below.mono HBS.out))
      have HN := Lib.hid (And.intro hnodes (And.intro hle hmx))
      clear hm hnodes hle hmx hSN hf hr
      go_wp2_with fail
      go_ret3
      rw [HPO.out]
      exact ⟨_, _, _, rfl, rfl, HN.out.1, HN.out.2.1, HN.out.2.2, HF2.out⟩
  · have hcn : ((c : Int) != 0) = true := by simp; omega
    have HPO := Lib.hid (show parseS g L = ([], p, c) by unfold parseS; rw [if_pos (by rw [hc]; exact hc0), hp, hc])
    clear hs hL hts hp hc hc0
    go_enter Tryz.func14, Tryz.ntmps14
    go_wp2_with fail
    refine HX.out.mono ?_
    rintro e w1 ⟨v, rfl, ht, hb⟩
    have HB := Lib.hid hb
    clear ht hb
    go_wp2_with fail
    go_ret3
    exact ParseGot.none HPO.out HB.out

theorem landParse (s : ByteArray) (w : World) (hs : s.size ≤ maxLen) : Calls Tryz.prog 7 #[.string s] w (ParseGot w (parseS false s.data.toList)) := by
  have HR := Lib.hid (landRead s false w hs)
  clear hs
  go_enter Tryz.func7, Tryz.ntmps7
  go_wp2_with fail
  refine HR.out.mono ?_
  rintro e w1 ⟨A, n, c, rfl, h2⟩
  have H2 := Lib.hid h2
  clear h2
  go_wp2_with fail
  go_ret3
  exact ⟨_, _, _, rfl, H2.out⟩
theorem landRegex (s : ByteArray) (w : World) (hs : s.size ≤ maxLen) : Calls Tryz.prog 9 #[.string s] w (ParseGot w (parseS true s.data.toList)) := by
  have HR := Lib.hid (landRead s true w hs)
  clear hs
  go_enter Tryz.func9, Tryz.ntmps9
  go_wp2_with fail
  refine HR.out.mono ?_
  rintro e w1 ⟨A, n, c, rfl, h2⟩
  have H2 := Lib.hid h2
  clear h2
  go_wp2_with fail
  go_ret3
  exact ⟨_, _, _, rfl, H2.out⟩
end Go.Proofs.YthcbgneoonekkaaGreatDoor.Parse

namespace Go.Proofs.YthcbgneoonekkaaGreatDoor.Show
open Go.Proofs.YthcbgneoonekkaaGreatDoor.Tree Go.Proofs.YthcbgneoonekkaaGreatDoor.Lex Go.Proofs.YthcbgneoonekkaaGreatDoor.Parse

/-- What stands behind is no part of a word. -/
def Ends (r : List UInt8) : Prop := ∀ c, r.head? = some c → wordB c = false
/-- These bytes are tokens of which P says something, if no word goes on behind them; LexAny: whatever stands behind them. -/
def LexTo (bs : List UInt8) (P : List Tk → Prop) : Prop := ∀ p r, Ends r → ∃ ts, P ts ∧ lexAt p (bs ++ r) = (lexAt (p + bs.length) r).before ts
def LexAny (bs : List UInt8) (P : List Tk → Prop) : Prop := ∀ p r, ∃ ts, P ts ∧ lexAt p (bs ++ r) = (lexAt (p + bs.length) r).before ts
def Cat (P Q : List Tk → Prop) (ts : List Tk) : Prop := ∃ u v, ts = u ++ v ∧ P u ∧ Q v
section
variable {a b : List UInt8} {P Q : List Tk → Prop}
theorem LexAny.to (h : LexAny a P) : LexTo a P := fun p r _ => h p r
theorem LexTo.mono (h : LexTo a P) (hq : ∀ ts, P ts → Q ts) : LexTo a Q := fun p r he => by
  obtain ⟨ts, h1, h2⟩ := h p r he
  exact ⟨ts, hq ts h1, h2⟩
theorem LexAny.mono (h : LexAny a P) (hq : ∀ ts, P ts → Q ts) : LexAny a Q := fun p r => by
  obtain ⟨ts, h1, h2⟩ := h p r
  exact ⟨ts, hq ts h1, h2⟩
theorem before_cat (u v : List Tk) (x : Res) : (x.before v).before u = x.before (u ++ v) := before_before u v x
theorem LexAny.cat (h : LexAny a P) (k : LexAny b Q) : LexAny (a ++ b) (Cat P Q) := fun p r => by
  obtain ⟨u, h1, h2⟩ := h p (b ++ r)
  obtain ⟨v, k1, k2⟩ := k (p + a.length) r
  refine ⟨u ++ v, ⟨u, v, rfl, h1, k1⟩, ?_⟩
  rw [List.append_assoc, h2, k2, before_cat, List.length_append, Nat.add_assoc]
theorem LexAny.catTo (h : LexAny a P) (k : LexTo b Q) : LexTo (a ++ b) (Cat P Q) := fun p r he => by
  obtain ⟨u, h1, h2⟩ := h p (b ++ r)
  obtain ⟨v, k1, k2⟩ := k (p + a.length) r he
  refine ⟨u ++ v, ⟨u, v, rfl, h1, k1⟩, ?_⟩
  rw [List.append_assoc, h2, k2, before_cat, List.length_append, Nat.add_assoc]
/-- b begins with what is no part of a word. -/
def Apart1 (b : List UInt8) : Prop := ∃ c r, b = c :: r ∧ wordB c = false
theorem Apart1.ends {r : List UInt8} (h : Apart1 b) : Ends (b ++ r) := fun c hc => by
  obtain ⟨d, q, rfl, hd⟩ := h
  have hc : some d = some c := hc
  injection hc with hc
  rw [← hc]; exact hd
theorem LexTo.cat (h : LexTo a P) (k : LexAny b Q) (hb : Apart1 b) : LexAny (a ++ b) (Cat P Q) := fun p r => by
  obtain ⟨u, h1, h2⟩ := h p (b ++ r) hb.ends
  obtain ⟨v, k1, k2⟩ := k (p + a.length) r
  refine ⟨u ++ v, ⟨u, v, rfl, h1, k1⟩, ?_⟩
  rw [List.append_assoc, h2, k2, before_cat, List.length_append, Nat.add_assoc]
theorem LexTo.catTo (h : LexTo a P) (k : LexTo b Q) (hb : Apart1 b) : LexTo (a ++ b) (Cat P Q) := fun p r he => by
  obtain ⟨u, h1, h2⟩ := h p (b ++ r) hb.ends
  obtain ⟨v, k1, k2⟩ := k (p + a.length) r he
  refine ⟨u ++ v, ⟨u, v, rfl, h1, k1⟩, ?_⟩
  rw [List.append_assoc, h2, k2, before_cat, List.length_append, Nat.add_assoc]
end
/-- One token, but for its place. -/
def Tok (k : Nat) (tx : List UInt8) (v : Nat) (ts : List Tk) : Prop := ∃ p, ts = [⟨k, tx, v, p⟩]
def NoTok (ts : List Tk) : Prop := ts = []
theorem lex_blank : LexAny [32] NoTok := fun p r => ⟨[], rfl, by
  rw [before_nil]
  exact lexAt_blank p r (by decide)⟩
theorem lex_sign {c : UInt8} (hb : Lex.blank c = false) (hs : small c = false) (hg : digit c = false) (h45 : c.toNat ≠ 45) (hc : isSign c = true) : LexAny [c] (Tok 3 [c] 0) := fun p r => ⟨_, ⟨p, rfl⟩, by
  show lexAt p (c :: r) = _
  rw [lexAt_go p ((piece_sign hb hs hg h45).1 hc)]
  rfl⟩
theorem lex_arrow : LexAny [45, 62] (Tok 3 [45, 62] 0) := fun p r => ⟨_, ⟨p, rfl⟩, by
  show lexAt p (45 :: 62 :: r) = _
  rw [lexAt_go p (piece_arrow (c := 45) (d := 62) (by decide) (by decide))]
  rfl⟩
theorem lex_word {c : UInt8} {t : List UInt8} (hs : small c = true) (ht : ∀ x ∈ c :: t, wordB x = true) (hl : t.length ≤ 15) : LexTo (c :: t) (Tok 1 (c :: t) 0) := fun p r he => ⟨_, ⟨p, rfl⟩, by
  have hrun : run true (c :: (t ++ r)) = t.length + 1 := run_stop (words := true) (c :: t) r ht he
  have hb : Lex.blank c = false := by
    simp only [small, decide_eq_true_eq] at hs
    simp only [Lex.blank, decide_eq_false_iff_not]
    omega
  show lexAt p (c :: (t ++ r)) = _
  rw [lexAt_go p ((piece_word hb hs hrun).2 (by omega))]
  have e1 : (c :: (t ++ r)).drop (t.length + 1) = r := by
    show (t ++ r).drop t.length = r
    rw [List.drop_append_of_le_length (Nat.le_refl _), List.drop_length, List.nil_append]
  have e2 : (c :: (t ++ r)).take (t.length + 1) = c :: t := by
    show c :: (t ++ r).take t.length = c :: t
    rw [List.take_append_of_le_length (Nat.le_refl _), List.take_length]
  rw [e1, e2]
  rfl⟩
theorem lex_num {v : Nat} (hv : v < 10000) : LexTo (Go.Lib.decDigits v) (Tok 2 [] v) := fun p r he => ⟨_, ⟨p, rfl⟩, by
  obtain ⟨c, t, h1, h2, h3, h4, h5⟩ := dec_split 3 v hv
  rw [h1]
  have hp := piece_num (r := r) h2 (fun x hx => by
    have := he x hx
    rw [← Bool.not_eq_true]
    intro h
    rw [digit_word h] at this
    cases this) h5 h4
  show lexAt p (c :: (t ++ r)) = _
  rw [lexAt_go p hp, h3]
  have e1 : (c :: (t ++ r)).drop (t.length + 1) = r := by
    show (t ++ r).drop t.length = r
    rw [List.drop_append_of_le_length (Nat.le_refl _), List.drop_length, List.nil_append]
  rw [e1]
  rfl⟩
theorem dec_list (v : Nat) : (Itoa.dec (v : Int)).data.toList = Go.Lib.decDigits v := by
  show (Go.Lib.itoa (v : Int)) = _
  exact Go.Lib.itoa_nonneg v
theorem list_app (a b : ByteArray) : (a ++ b).data.toList = a.data.toList ++ b.data.toList := by simp

/-! ### intervals -/
/-- The tokens of an interval. -/
def SpanTk (lo hi : Int) (sp : List Tk) : Prop := ∀ (k : Nat) (rest : List Tk), 8 ≤ k → k ≤ 17 → Parse.textOf rest ≠ [91] → spanM k (sp ++ rest) = .ok (lo, hi, rest)
theorem span_lex {lo hi : Int} (h : Ival.mayS lo hi = true) : LexTo (spanT lo hi) (SpanTk lo hi) ∧ (spanT lo hi = [] ∨ Apart1 (spanT lo hi)) := by
  unfold spanT
  by_cases h0 : lo = 0 ∧ hi = -1
  · rw [if_pos h0]
    refine ⟨fun p r _ => ⟨[], fun k rest k1 k2 hr => ?_, (before_nil _).symm⟩, Or.inl rfl⟩
    unfold spanM
    rw [if_neg (by omega), List.nil_append, if_pos hr, h0.1, h0.2]
  · rw [if_neg h0]
    have hm := h
    unfold Ival.mayS at h
    rw [decide_eq_true_eq] at h
    obtain ⟨a, rfl⟩ := Int.eq_ofNat_of_zero_le h.1
    have ha : a < 10000 := by omega
    have hb := (lex_sign (c := 91) (by decide) (by decide) (by decide) (by decide) (by decide)).catTo (lex_num ha)
    unfold Ival.textS
    rw [if_pos hm]
    by_cases h1 : hi = -1
    · rw [if_pos h1, list_app, list_app, dec_list]
      have hc : LexAny [44, 42, 93] (Cat (Tok 3 [44] 0) (Cat (Tok 3 [42] 0) (Tok 3 [93] 0))) :=
        (lex_sign (c := 44) (by decide) (by decide) (by decide) (by decide) (by decide)).cat ((lex_sign (c := 42) (by decide) (by decide) (by decide) (by decide) (by decide)).cat (lex_sign (c := 93) (by decide) (by decide) (by decide) (by decide) (by decide)))
      have hd := hb.cat hc ⟨44, [42, 93], rfl, by decide⟩
      refine ⟨hd.to.mono ?_, Or.inr ⟨91, _, rfl, by decide⟩⟩
      rintro ts ⟨u, v, rfl, ⟨u1, u2, rfl, ⟨p1, rfl⟩, ⟨p2, rfl⟩⟩, ⟨v1, v2, rfl, ⟨p3, rfl⟩, ⟨w1, w2, rfl, ⟨p4, rfl⟩, ⟨p5, rfl⟩⟩⟩⟩ k rest k1 k2 _
      unfold spanM
      rw [if_neg (by omega)]
      simp [Parse.textOf, kindOf, numAt, h1]
    · rw [if_neg h1, list_app, list_app, list_app, list_app, dec_list]
      obtain ⟨b, rfl⟩ := Int.eq_ofNat_of_zero_le (show 0 ≤ hi by omega)
      have hbb : b < 10000 := by omega
      rw [dec_list]
      have hc := (lex_sign (c := 44) (by decide) (by decide) (by decide) (by decide) (by decide)).catTo (lex_num hbb)
      have hd := (hb.catTo hc ⟨44, _, rfl, by decide⟩).cat (lex_sign (c := 93) (by decide) (by decide) (by decide) (by decide) (by decide)) ⟨93, [], rfl, by decide⟩
      have e : ({ data := #[91] } : ByteArray).data.toList ++ Go.Lib.decDigits a ++ ({ data := #[44] } : ByteArray).data.toList ++ Go.Lib.decDigits b ++ ({ data := #[93] } : ByteArray).data.toList = ([91] ++ Go.Lib.decDigits a) ++ ([44] ++ Go.Lib.decDigits b) ++ [93] := by simp
      rw [e]
      refine ⟨hd.to.mono ?_, Or.inr ⟨91, _, rfl, by decide⟩⟩
      rintro ts ⟨u, v, rfl, ⟨u1, u2, rfl, ⟨a1, a2, rfl, ⟨p1, rfl⟩, ⟨p2, rfl⟩⟩, ⟨v1, v2, rfl, ⟨p3, rfl⟩, ⟨p4, rfl⟩⟩⟩, ⟨p5, rfl⟩⟩ k rest k1 k2 _
      unfold spanM
      rw [if_neg (by omega)]
      have hab : ¬ b < a := by omega
      simp [Parse.textOf, kindOf, numAt, hab]
end Go.Proofs.YthcbgneoonekkaaGreatDoor.Show

namespace Go.Proofs.YthcbgneoonekkaaGreatDoor.Show
open Go.Proofs.YthcbgneoonekkaaGreatDoor.Tree Go.Proofs.YthcbgneoonekkaaGreatDoor.Lex Go.Proofs.YthcbgneoonekkaaGreatDoor.Parse

/-! ### what tokens are read as -/
def NoOp (g : Bool) (L : Nat) (rest : List Tk) : Prop := (∀ L', L ≤ L' → L' < lvl g → opOf g L' (Parse.textOf rest) = 0) ∧ (g = true → Parse.textOf rest ≠ [42])
theorem NoOp.up {g : Bool} {L L' : Nat} {rest : List Tk} (h : NoOp g L rest) (hl : L ≤ L') : NoOp g L' rest := ⟨fun x hx => h.1 x (Nat.le_trans hl hx), h.2⟩
section
variable (l : List Nd)
def sz (k : Nat) : Nat := k + 1 - startL l k
def O (g : Bool) (δ k : Nat) (ts : List Tk) : Prop := ∀ (d made : Nat) (rest : List Tk), (d + δ ≤ 40 ∨ 40 < d) → made + sz l k ≤ 200 → D (.opd g) d ⟨ts ++ rest, made, l.take (startL l k)⟩ (.ok ⟨rest, made + sz l k, l.take (k + 1)⟩ (k : Int))
def Q (g : Bool) (δ L k : Nat) (ts : List Tk) : Prop := ∀ (d made : Nat) (rest : List Tk) (o : Out), (d + δ ≤ 40 ∨ 40 < d) → made + sz l k ≤ 200 → NoOp g (L + 1) rest → D (.ops g L (k : Int)) d ⟨rest, made + sz l k, l.take (k + 1)⟩ o → D (.row g L) d ⟨ts ++ rest, made, l.take (startL l k)⟩ o
def R (g : Bool) (δ L k : Nat) (ts : List Tk) : Prop := ∀ (d made : Nat) (rest : List Tk), (d + δ ≤ 40 ∨ 40 < d) → made + sz l k ≤ 200 → NoOp g L rest → D (.row g L) d ⟨ts ++ rest, made, l.take (startL l k)⟩ (.ok ⟨rest, made + sz l k, l.take (k + 1)⟩ (k : Int))
def S (δ k : Nat) (ts : List Tk) : Prop := ∀ (d made : Nat) (rest : List Tk) (o : Out), (d + δ ≤ 40 ∨ 40 < d) → made + sz l k ≤ 200 → D (.stars (k : Int)) d ⟨rest, made + sz l k, l.take (k + 1)⟩ o → D .rep d ⟨ts ++ rest, made, l.take (startL l k)⟩ o
end
section
variable {l : List Nd} {g : Bool} {δ L k : Nat} {ts : List Tk}
theorem Q.r (h : Q l g δ L k ts) (hL : L < lvl g) : R l g δ L k ts := fun d made rest hd hm hn => h d made rest _ hd hm (hn.up (Nat.le_succ _)) (.opsEnd (hn.1 L (Nat.le_refl _) hL))
theorem R.q (h : R l g δ (L + 1) k ts) (hL : L < lvl g) : Q l g δ L k ts := fun d made rest _ hd hm hn ho => .row hL (h d made rest hd hm hn) ho
theorem O.r4 (h : O l false δ k ts) : R l false δ 4 k ts := fun d made rest hd hm _ => .rowUn (h d made rest hd hm)
theorem O.s (h : O l true δ k ts) : S l δ k ts := fun d made rest _ hd hm ho => .rep (h d made rest hd hm) ho
theorem S.r2 (h : S l δ k ts) : R l true δ 2 k ts := fun d made rest hd hm hn => .rowRep (h d made rest _ hd hm (.starsEnd (hn.2 rfl)))
theorem Q.down : ∀ (m : Nat), Q l g δ (L + m) k ts → L + m < lvl g → Q l g δ L k ts
  | 0, h, _ => h
  | m + 1, h, hL => Q.down m (R.q (h.r hL) (by omega)) (by omega)
end
/-- What a node of rank r is read as, from its own tokens. -/
def Fit (l : List Nd) (g : Bool) (δ k : Nat) (ts : List Tk) (r : Int) : Prop :=
  if g = true then (if r ≤ 2 then Q l true δ (r - 1).toNat k ts else if r = 3 then S l δ k ts else O l true δ k ts)
  else if r ≤ 4 then Q l false δ (r - 1).toNat k ts else O l false δ k ts
section
variable {l : List Nd} {g : Bool} {δ k : Nat} {ts : List Tk} {r : Int}
theorem Fit.s (h : Fit l true δ k ts r) (hr : 3 ≤ r) : S l δ k ts := by
  unfold Fit at h
  rw [if_pos rfl, if_neg (by omega)] at h
  split at h
  · exact h
  · exact O.s h
theorem Fit.o (h : Fit l false δ k ts r) (hr : 5 ≤ r) : O l false δ k ts := by
  unfold Fit at h
  rw [if_neg (by decide), if_neg (by omega)] at h
  exact h
theorem Fit.q (h : Fit l g δ k ts r) {L : Nat} (hL : L < lvl g) (hr : (L : Int) + 1 ≤ r) : Q l g δ L k ts := by
  cases g
  · have hL4 : L < 4 := hL
    by_cases h4 : r ≤ 4
    · unfold Fit at h
      rw [if_neg (by decide), if_pos h4] at h
      obtain ⟨m, hm⟩ : ∃ m : Nat, (r - 1).toNat = L + m := ⟨(r - 1).toNat - L, by omega⟩
      rw [hm] at h
      exact Q.down m h (by show L + m < 4; omega)
    · have h3 : Q l false δ 3 k ts := R.q (L := 3) (O.r4 (h.o (by omega))) (by show 3 < 4; omega)
      obtain ⟨m, hm⟩ : ∃ m : Nat, 3 = L + m := ⟨3 - L, by omega⟩
      rw [hm] at h3
      exact Q.down m h3 (by show L + m < 4; omega)
  · have hL2 : L < 2 := hL
    by_cases h4 : r ≤ 2
    · unfold Fit at h
      rw [if_pos rfl, if_pos h4] at h
      obtain ⟨m, hm⟩ : ∃ m : Nat, (r - 1).toNat = L + m := ⟨(r - 1).toNat - L, by omega⟩
      rw [hm] at h
      exact Q.down m h (by show L + m < 2; omega)
    · have h3 : Q l true δ 1 k ts := R.q (L := 1) (S.r2 (h.s (by omega))) (by show 1 < 2; omega)
      obtain ⟨m, hm⟩ : ∃ m : Nat, 1 = L + m := ⟨1 - L, by omega⟩
      rw [hm] at h3
      exact Q.down m h3 (by show L + m < 2; omega)
/-- The row of the level above the operands' is the operand itself. -/
theorem Fit.rr (h : Fit l g δ k ts r) {L : Nat} (hL : L ≤ lvl g) (hr : (L : Int) + 1 ≤ r) : R l g δ L k ts := by
  by_cases h1 : L < lvl g
  · exact (h.q h1 hr).r h1
  · have e : L = lvl g := by omega
    subst e
    cases g
    · exact O.r4 (h.o (by have : ((4 : Nat) : Int) + 1 ≤ r := hr; omega))
    · exact S.r2 (h.s (by have : ((2 : Nat) : Int) + 1 ≤ r := hr; omega))
theorem fit_o (h : O l g δ k ts) (hr : if g = true then 4 ≤ r else 5 ≤ r) : Fit l g δ k ts r := by
  unfold Fit
  cases g
  · rw [if_neg (by decide)] at hr ⊢
    rw [if_neg (by omega)]; exact h
  · rw [if_pos rfl] at hr ⊢
    rw [if_neg (by omega), if_neg (by omega)]; exact h
/-- In brackets. -/
theorem par_o {p q : Nat} (h : R l g δ 0 k ts) : O l g (δ + 1) k (⟨3, [40], 0, p⟩ :: (ts ++ [⟨3, [41], 0, q⟩])) := fun d made rest hd hm => by
  have hd40 : d ≠ 40 := by omega
  have hn : NoOp g 0 (⟨3, [41], 0, q⟩ :: rest) := ⟨fun L' _ _ => by
    show (if (betwK g [41]).2 = L' + 1 then (betwK g [41]).1 else 0) = 0
    have e : betwK g [41] = (0, 0) := by cases g <;> decide
    rw [e]; split <;> rfl, fun _ => by show ([41] : List UInt8) ≠ [42]; decide⟩
  have h1 := h (d + 1) made (⟨3, [41], 0, q⟩ :: rest) (by omega) hm hn
  have e : (⟨3, [40], 0, p⟩ :: (ts ++ [⟨3, [41], 0, q⟩])) ++ rest = (⟨3, [40], 0, p⟩ : Tk) :: (ts ++ (⟨3, [41], 0, q⟩ :: rest)) := by simp
  rw [e]
  exact D.par (s := ⟨⟨3, [40], 0, p⟩ :: (ts ++ (⟨3, [41], 0, q⟩ :: rest)), made, l.take (startL l k)⟩) (s1 := ⟨⟨3, [41], 0, q⟩ :: rest, made + sz l k, l.take (k + 1)⟩) rfl hd40 h1 rfl
end
/-- It begins with a word or a sign, but with no bracket of an interval. -/
def Head (ts : List Tk) : Prop := ∃ t r, ts = t :: r ∧ t.text ≠ [91]
theorem Head.ne {ts rest : List Tk} (h : Head ts) : Parse.textOf (ts ++ rest) ≠ [91] := by
  obtain ⟨t, r, rfl, h2⟩ := h
  exact h2
theorem Head.app {ts rest : List Tk} (h : Head ts) : Head (ts ++ rest) := by
  obtain ⟨t, r, rfl, h2⟩ := h
  exact ⟨t, r ++ rest, rfl, h2⟩
/-- A node's own text. -/
def Own (l : List Nd) (i : Nat) (n : Nd) (ts : List Tk) : Prop := Fit l (regKind n.kind) (nst l i) i ts (rank n.kind) ∧ Head ts
/-- A kid's text, in brackets or not. -/
def KidP (l : List Nd) (g : Bool) (n : Nd) (w t : Nat) (ts : List Tk) : Prop := Fit l g (kidD l n w t) t ts (if bare n.kind w (kindAt l (t : Int)) = true then rank (kindAt l (t : Int)) else 6) ∧ Head ts
theorem kid_lex {l : List Nd} {n nt : Nd} {w t : Nat} {g : Bool} (ht : l[t]? = some nt) (hg : regKind nt.kind = g) (h : LexTo (txt l t) (Own l t nt)) : LexTo (kidX l n w t) (KidP l g n w t) := by
  have hk : kindAt l (t : Int) = nt.kind := by unfold kindAt; rw [Int.toNat_natCast, ht]; rfl
  unfold kidX
  by_cases hb : bare n.kind w (kindAt l (t : Int)) = true
  · rw [if_pos hb]
    refine h.mono fun ts ⟨h1, h2⟩ => ⟨?_, h2⟩
    unfold kidD
    rw [if_pos hb, if_pos hb, hk, ← hg]
    exact h1
  · rw [if_neg hb]
    have h1 := (((lex_sign (c := 40) (by decide) (by decide) (by decide) (by decide) (by decide)).catTo h).cat (lex_sign (c := 41) (by decide) (by decide) (by decide) (by decide) (by decide)) ⟨41, [], rfl, by decide⟩).to
    refine h1.mono ?_
    rintro ts ⟨u, v, rfl, ⟨u1, u2, rfl, ⟨p, rfl⟩, ⟨hf, -⟩⟩, ⟨q, rfl⟩⟩
    refine ⟨?_, ⟨_, _, rfl, by show ([40] : List UInt8) ≠ [91]; decide⟩⟩
    unfold kidD
    rw [if_neg hb, if_neg hb]
    rw [hg] at hf
    have hr : R l g (nst l t) 0 t u2 := hf.rr (Nat.zero_le _) (by have : 1 ≤ rank nt.kind := by { unfold rank; repeat' split <;> omega }; omega)
    have hrk := par_o (p := p) (q := q) hr
    have e : [(⟨3, [40], 0, p⟩ : Tk)] ++ u2 ++ [⟨3, [41], 0, q⟩] = ⟨3, [40], 0, p⟩ :: (u2 ++ [⟨3, [41], 0, q⟩]) := by simp
    rw [e]
    exact fit_o hrk (by cases g <;> decide)
end Go.Proofs.YthcbgneoonekkaaGreatDoor.Show
