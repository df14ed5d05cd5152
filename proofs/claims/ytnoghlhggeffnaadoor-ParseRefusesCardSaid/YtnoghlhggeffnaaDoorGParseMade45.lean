/-
  The tables of math/bits and internal/strconv: what a row that lists them gives the walks; a world in which they lie as their initialisers lay them. By an AI agent.
  A formula's text with something besides is none: told is where. By an AI agent.
  What a formula's text is with a word, a bracket, a sign besides. By an AI agent.
  The walk of the law ParseRefuses. By an AI agent.
-/
import Derived.Test.YtnoghlhggeffnaaDoorRows
import Derived.Test.YtnoghlhggeffnaaDoorGParseMade9
import Derived.Deep.DeepHandedRow
import Derived.LaidSub
import Derived.Lib.LaidTab
import Derived.Lib.TrailingZeros
import Derived.Test.YtnoghlhggeffnaaDoorGParseMade18
import Derived.Test.YtnoghlhggeffnaaDoorGParseMade13
import Derived.Test.YtnoghlhggeffnaaDoorGParseMade16
import Derived.Test.YtnoghlhggeffnaaDoorGParseMade29
import Derived.Test.YtnoghlhggeffnaaDoorGParseMade43
namespace Go.Proofs.YtnoghlhggeffnaaDoor.IvalTab
open Go.RowKit

abbrev listed : List (String × DataW Unit) := [("math/bits.deBruijn32tab", Rows.laid_math_bits_deBruijn32tab), ("math/bits.deBruijn64tab", Rows.laid_math_bits_deBruijn64tab), ("internal/strconv.uint64pow10", Rows.laid_internal_strconv_uint64pow10)]
theorem gTab : Tryd.prog.globalNamed "internal/strconv.uint64pow10" = some 0 := by kernel_rfl
theorem gTabType : (Tryd.prog.globals[0]?).map (·.type) = some 107 := by kernel_rfl
theorem cellsTab : Tryd.prog.cellsOf 107 = 20 := by kernel_rfl
theorem cellsOne : Tryd.prog.cellsOf 99 = 1 := by kernel_rfl
theorem lone {W : World} (h : laidMetH Tryd.prog listed W) : laidMetH Tryd.prog [("internal/strconv.uint64pow10", Rows.laid_internal_strconv_uint64pow10)] W :=
  h.filter fun x => x.1 == "internal/strconv.uint64pow10"

set_option maxRecDepth 100000 in
theorem tab_of {W : World} (h : laidMetH Tryd.prog listed W) : Itoa.Tab10 W :=
  Lib.tabIs_of_head (rest := []) gTab gTabType Tryd.underlying107 Tryd.underlying99 cellsOne cellsTab (lone h)

/-- The cells, others. -/
def fill (vs : List Value) : Obj → Obj
  | .cells _ t frozen => .cells vs.toArray t frozen
  | o => o
/-- The settled world, the tables (blocks by name) as their initialisers lay them. -/
noncomputable def laidWorld (os : Os) : World :=
  { World.holding Tryd.prog os ⟨#[], #[], []⟩ with heap := (((World.holding Tryd.prog os ⟨#[], #[], []⟩).heap.modify 0 (fill (Lib.pow10Tab.map fun x => Value.int .u64 x))).modify 2 (fill (Lib.deBruijn32tab.map fun x => Value.int .u8 (Int.ofNat x)))).modify 3 (fill (Lib.deBruijn64tab.map fun x => Value.int .u8 (Int.ofNat x))) }
theorem laid_met (os : Os) : laidMet Tryd.prog listed ((laidWorld os).forCall (fun _ _ => 0) ⟨#[], #[.int .u16 0, .int .u16 0], []⟩).memory :=
  laidMet_of_run' 8 (by kernel_rfl) (by kernel_rfl)
end Go.Proofs.YtnoghlhggeffnaaDoor.IvalTab

namespace Go.Proofs.YtnoghlhggeffnaaDoor.Show
open Go.Proofs.YtnoghlhggeffnaaDoor.Tree Go.Proofs.YtnoghlhggeffnaaDoor.Lex Go.Proofs.YtnoghlhggeffnaaDoor.Parse

/-- An error of an operand is its rows' error. -/
theorem bad_rows {s : St} {d c p : Nat} (h : D (.opd false) d s (.bad c p)) : ∀ L, L ≤ 4 → D (.row false L) d s (.bad c p) := by
  have h4 : D (.row false 4) d s (.bad c p) := .rowUn h
  have h3 : D (.row false 3) d s (.bad c p) := .rowBad (by decide) h4
  have h2 : D (.row false 2) d s (.bad c p) := .rowBad (by decide) h3
  have h1 : D (.row false 1) d s (.bad c p) := .rowBad (by decide) h2
  have h0 : D (.row false 0) d s (.bad c p) := .rowBad (by decide) h1
  intro L hL
  match L, hL with
  | 0, _ => exact h0
  | 1, _ => exact h1
  | 2, _ => exact h2
  | 3, _ => exact h3
  | 4, _ => exact h4
theorem bad_up {s : St} {d c p L : Nat} (h : D (.row false L) d s (.bad c p)) : ∀ m, m ≤ L → L ≤ 4 → D (.row false (L - m)) d s (.bad c p)
  | 0, _, _ => h
  | m + 1, hm, hL => by
    have := bad_up h m (by omega) hL
    have e : L - m = (L - (m + 1)) + 1 := by omega
    rw [e] at this
    exact .rowBad (show L - (m + 1) < 4 by omega) this
/-- No operand begins with it. -/
theorem none_bad {d made : Nat} {nodes : List Nd} {t : Tk} {r : List Tk} (h1 : leafOf false t.text = none) (h2 : t.text ≠ [40]) (h3 : braceOf false t.text = 0) (h4 : preOf false t.text = 0) : D (.opd false) d ⟨t :: r, made, nodes⟩ (.bad 2 t.pos) :=
  D.none (s := ⟨t :: r, made, nodes⟩) h1 h2 h3 h4

/-- '& ' ahead of what is a formula. -/
def BadAmp (l : List Nd) (δ L k : Nat) (ts : List Tk) : Prop := ∀ (d made p q : Nat), d + δ ≤ 40 → made + sz l k < 200 → D (.row false L) d ⟨ts ++ [⟨3, [38], 0, p⟩, ⟨0, [], 0, q⟩], made, l.take (startL l k)⟩ (.bad 2 q)
theorem amp_end {d made p q : Nat} {nodes : List Nd} {a : Int} (hm : made < 200) : D (.ops false 2 a) d ⟨[⟨3, [38], 0, p⟩, ⟨0, [], 0, q⟩], made, nodes⟩ (.bad 2 q) :=
  D.opsBad (s := ⟨[⟨3, [38], 0, p⟩, ⟨0, [], 0, q⟩], made, nodes⟩) (lo := 0) (hi := 0) (r := [⟨0, [], 0, q⟩]) (by show opOf false 2 [38] ≠ 0; decide) (by show made ≠ 200; omega) (by show spanM (opOf false 2 [38]) _ = _; rfl)
    (bad_rows (none_bad (t := ⟨0, [], 0, q⟩) (by rfl) (by show ([] : List UInt8) ≠ [40]; decide) rfl rfl) 3 (by decide))
theorem amp_noop (p q L : Nat) (hL : 3 ≤ L) : NoOp false L [⟨3, [38], 0, p⟩, ⟨0, [], 0, q⟩] := ⟨fun L' h1 h2 => by
  show (if (betwK false [38]).2 = L' + 1 then (betwK false [38]).1 else 0) = 0
  have e : betwK false [38] = (5, 3) := by decide
  rw [e, if_neg (by show ¬ 3 = L' + 1; omega)], fun h => by cases h⟩
section
variable {l : List Nd} {δ k : Nat} {ts : List Tk}
theorem q_amp (h : Q l false δ 2 k ts) : BadAmp l δ 2 k ts := fun d made p q hd hm => h d made _ _ hd (by omega) (amp_noop p q 3 (Nat.le_refl _)) (amp_end (by omega))
theorem BadAmp.down {L : Nat} (h : BadAmp l δ L k ts) (hL : L ≤ 4) : ∀ m, m ≤ L → BadAmp l δ (L - m) k ts := fun m hm d made p q hd hmd => bad_up (h d made p q hd hmd) m hm hL
theorem fit_amp {r : Int} (h : Fit l false δ k ts r) (hr : 3 ≤ r) : ∀ L, L ≤ 2 → BadAmp l δ L k ts := by
  have h2 : BadAmp l δ 2 k ts := q_amp (h.q (by decide) (by omega))
  intro L hL
  have := h2.down (by decide) (2 - L) (by omega)
  rw [show 2 - (2 - L) = L by omega] at this
  exact this
end
/-- A node's own text, and with a sign behind it. -/
def Own2 (l : List Nd) (i : Nat) (n : Nd) (ts : List Tk) : Prop := Own l i n ts ∧ (regKind n.kind = false → ∀ L : Nat, L ≤ 2 → (L : Int) + 1 ≤ rank n.kind → BadAmp l (nst l i) L i ts)
def KidP2 (l : List Nd) (n : Nd) (u : Nat) (ts : List Tk) : Prop := KidP l false n 1 u ts ∧ ∀ L : Nat, L ≤ 2 → (L : Int) + 1 ≤ (if bare n.kind 1 (kindAt l (u : Int)) = true then rank (kindAt l (u : Int)) else 6) → BadAmp l (kidD l n 1 u) L u ts
theorem kid_lex2 {l : List Nd} {n nt : Nd} {t : Nat} (ht : l[t]? = some nt) (hg : regKind nt.kind = false) (h : LexTo (txt l t) (Own2 l t nt)) : LexTo (kidX l n 1 t) (KidP2 l n t) := by
  have hk : kindAt l (t : Int) = nt.kind := by unfold kindAt; rw [Int.toNat_natCast, ht]; rfl
  by_cases hb : bare n.kind 1 (kindAt l (t : Int)) = true
  · unfold kidX
    rw [if_pos hb]
    refine h.mono fun ts ⟨⟨h1, h2⟩, h3⟩ => ⟨⟨?_, h2⟩, ?_⟩
    · unfold kidD
      rw [if_pos hb, if_pos hb, hk, ← hg]
      exact h1
    · unfold kidD
      rw [if_pos hb, if_pos hb, hk]
      exact h3 hg
  · refine (kid_lex (w := 1) (n := n) ht hg (h.mono fun ts h => h.1)).mono fun ts hp => ⟨hp, ?_⟩
    have h1 := hp.1
    rw [if_neg hb] at h1
    exact fun L hL _ => fit_amp h1 (by omega) L hL
theorem own2_all {l : List Nd} (h : mayL l = true) : ∀ (i : Nat) (n : Nd), l[i]? = some n → LexTo (txt l i) (Own2 l i n) := by
  intro i
  induction i using Nat.strongRecOn with
  | ind i ih =>
    intro n hn
    have hi := (List.getElem?_eq_some_iff.1 hn).1
    by_cases hk67 : n.kind = 6 ∨ n.kind = 7
    · obtain ⟨hf, hkb, hsh⟩ := kids_at h hn
      have hsp := node_span hf
      rw [if_neg (by unfold timed; rw [decide_eq_true_eq]; omega)] at hsp
      rcases hsh with ⟨e0, e1, hs⟩ | ⟨t, e0, e1, hst, hle, hti⟩ | ⟨t, u, e0, e1, hst, hle, hsu, htu, hui⟩
      · rcases hk67 with hk | hk <;> rw [hk] at e1 <;> exact absurd e1 (by decide)
      · rcases hk67 with hk | hk <;> rw [hk] at e1 <;> exact absurd e1 (by decide)
      · obtain ⟨nt, hnt⟩ : ∃ nt, l[t]? = some nt := ⟨_, List.getElem?_eq_getElem (by omega)⟩
        obtain ⟨nu, hnu⟩ : ∃ nu, l[u]? = some nu := ⟨_, List.getElem?_eq_getElem (by omega)⟩
        obtain ⟨hd0, hd1, hkt⟩ := kid_at1 hn e0 (by omega) (by omega)
        have htr : takesReg n.kind = false := by rcases hk67 with hk | hk <;> rw [hk] <;> decide
        have hkid0 := kid_lex (w := 0) (n := n) hnt ((kid_reg hkb (by rw [e0]; simp) hnt).trans htr) (own_all h t nt hnt)
        have hkid1 := kid_lex2 (n := n) hnu ((kid_reg hkb (by rw [e0]; simp) hnu).trans htr) (ih u (by omega) nu hnu)
        have two : ∀ (k L : Nat) (tx : List UInt8), n.kind = (k : Int) → k = 6 ∨ k = 7 → L ≤ 1 → betwK false tx = (k, L + 1) → tx ≠ [42] → arity n.kind = 2 → rank n.kind = (L : Int) + 1 → word n = tx → LexAny tx (Tok 3 tx 0) → LexTo (txt l i) (Own2 l i n) := by
          intro k L tx h1 h2 h3 h5 h6 h9 h10 hw hlx
          have hpl : txt l i = (kidX l n 0 t ++ [32]) ++ tx ++ [32] ++ kidX l n 1 u := by
            rw [txt_node hn, hkt]
            unfold nodeT
            rw [if_neg (by omega), if_neg (by omega), if_neg (by omega), if_neg (by omega), if_neg (by omega), if_neg (by omega), if_neg (by omega), if_neg (by omega), if_neg (show ¬ [kidX l n 0 t, kidX l n 1 u].length = 1 by simp), hw]
            rfl
          rw [hpl]
          refine (((((hkid0.cat lex_blank ⟨32, [], rfl, by decide⟩).cat hlx).cat lex_blank).catTo hkid1)).mono ?_
          rintro ts ⟨u1, v, rfl, ⟨u2, u3, rfl, ⟨u4, u5, rfl, ⟨u6, u7, rfl, k0, rfl⟩, ⟨p, rfl⟩⟩, rfl⟩, hv⟩
          have e2 : ((u6 ++ []) ++ [(⟨3, tx, 0, p⟩ : Tk)] ++ []) ++ v = u6 ++ (⟨3, tx, 0, p⟩ :: ([] ++ v)) := by simp
          rw [e2]
          have hsr : SpanR k n.lo n.hi [] := by rw [hsp.1, hsp.2]; exact span_plain (by omega)
          have hL : L < lvl false := show L < 4 by omega
          have hq0 := kid_left h9 h10 hL (by omega) k0
          have hreg : regKind n.kind = false := by rw [h1]; rcases h2 with rfl | rfl <;> decide
          have ho : Own l i n (u6 ++ (⟨3, tx, 0, p⟩ :: ([] ++ v))) := by
            refine ⟨?_, k0.2.app⟩
            rw [hreg]
            exact fit_q (own_two hn hf h1 (by omega) e0 hst hle hsu htu hui hL h5 h6 hsr hq0 (kid_right h9 h10 hL (by omega) hv.1) hd0 hd1 hv.1.2) h10 hL
          refine ⟨ho, fun _ L' hL' hr' => ?_⟩
          have hb : BadAmp l (nst l i) L i (u6 ++ (⟨3, tx, 0, p⟩ :: ([] ++ v))) := fun d made p' q hd hm => by
            have e1 : sz l i = sz l t + sz l u + 1 := by unfold sz; omega
            rw [e1] at hm
            have hop : opOf false L tx = k := by unfold Parse.opOf; rw [h5, if_pos rfl]
            have e3 : (u6 ++ (⟨3, tx, 0, p⟩ :: ([] ++ v))) ++ [⟨3, [38], 0, p'⟩, ⟨0, [], 0, q⟩] = u6 ++ ((⟨3, tx, 0, p⟩ : Tk) :: (v ++ [⟨3, [38], 0, p'⟩, ⟨0, [], 0, q⟩])) := by simp
            rw [e3, hst]
            refine hq0 d made _ _ (by omega) (by omega) ⟨fun L2 g1 _ => by
              show opOf false L2 tx = 0
              unfold Parse.opOf
              rw [h5, if_neg (by show ¬ L + 1 = L2 + 1; omega)], fun h => by cases h⟩ ?_
            have hbu : BadAmp l (kidD l n 1 u) (L + 1) u v := hv.2 (L + 1) (by omega) (by
              split
              · next hbr =>
                unfold bare at hbr
                rw [if_pos h9, Bool.or_eq_true, Bool.and_eq_true, decide_eq_true_eq, decide_eq_true_eq, decide_eq_true_eq] at hbr
                omega
              · omega)
            have hbd := hbu d (made + sz l t + 1) p' q (by omega) (by omega)
            rw [hsu] at hbd
            exact D.opsBad (s := ⟨(⟨3, tx, 0, p⟩ : Tk) :: (v ++ [⟨3, [38], 0, p'⟩, ⟨0, [], 0, q⟩]), made + sz l t, l.take (t + 1)⟩) (lo := n.lo) (hi := n.hi) (r := v ++ [⟨3, [38], 0, p'⟩, ⟨0, [], 0, q⟩]) (by show opOf false L tx ≠ 0; rw [hop]; omega) (by show made + sz l t ≠ 200; omega) (by show spanM (opOf false L tx) _ = _; rw [hop]; have := hsr (v ++ [⟨3, [38], 0, p'⟩, ⟨0, [], 0, q⟩]) hv.1.2.ne; exact this) hbd
          have := hb.down (by omega) (L - L') (by omega)
          rw [show L - (L - L') = L' by omega] at this
          exact this
        rcases hk67 with hk | hk
        · exact two 6 1 [124] hk (Or.inl rfl) (by decide) (by decide) (by decide) (by rw [hk]; rfl) (by rw [hk]; rfl) (by unfold word; rw [hk]; rfl) (lex_sign (c := 124) (by decide) (by decide) (by decide) (by decide) (by decide))
        · exact two 7 0 [45, 62] hk (Or.inr rfl) (by decide) (by decide) (by decide) (by rw [hk]; rfl) (by rw [hk]; rfl) (by unfold word; rw [hk]; rfl) lex_arrow
    · refine (own_all h i n hn).mono fun ts ho => ⟨ho, fun hreg L hL hr => ?_⟩
      have h1 := ho.1
      rw [hreg] at h1
      refine fit_amp h1 ?_ L hL
      have hrange : 1 ≤ n.kind ∧ n.kind ≤ 22 := by
        have := (kids_at h hn).1
        unfold fieldsB at this
        rw [Bool.and_eq_true, kinds_range] at this
        exact this.1
      unfold regKind at hreg
      rw [decide_eq_false_iff_not] at hreg
      unfold rank
      rw [if_neg (by omega), if_neg (by omega)]
      repeat' split
      all_goals omega
end Go.Proofs.YtnoghlhggeffnaaDoor.Show

namespace Go.Proofs.YtnoghlhggeffnaaDoor.Show
open Go.Proofs.YtnoghlhggeffnaaDoor.Tree Go.Proofs.YtnoghlhggeffnaaDoor.Lex Go.Proofs.YtnoghlhggeffnaaDoor.Parse

theorem parse_of {g : Bool} {bs : List UInt8} {ts : List Tk} {o : Out} (hb : bs.length ≤ 2000) (hl : lexAt 0 bs = .ok ts) (hD : D (.row g 0) 0 ⟨ts, 0, []⟩ o) : parseS g bs = outD o := by
  have h1 : lexS bs = (ts, 0, 0) := by unfold lexS; rw [if_neg (by omega), hl]
  have hG := (lexS_good (bs := bs) (by rw [h1])).1
  rw [h1] at hG
  unfold parseS
  rw [h1, if_neg (fun h => h rfl)]
  exact sim_whole hG.allOk hD
theorem noop_of {t : Tk} {r : List Tk} (h : betwK false t.text = (0, 0)) : NoOp false 0 (t :: r) := ⟨fun L' _ _ => by
  show (if (betwK false t.text).2 = L' + 1 then (betwK false t.text).1 else 0) = 0
  rw [h]; split <;> rfl, fun h => by cases h⟩
theorem refuse_all {l : List Nd} (h : mayL l = true) (hg : regKind (lastKind l) = false) (hl : l.length ≤ 100) (hs : (textL l).length ≤ 1991) (hd : nestL l < 40) :
    parseS false (textL l ++ [32, 112]) = ([], (textL l).length + 1, 2) ∧ parseS false ([40] ++ textL l) = ([], (textL l).length + 1, 2) ∧ parseS false (textL l ++ [41]) = ([], (textL l).length, 2) ∧
    parseS false (textL l ++ [32, 38]) = ([], (textL l).length + 2, 2) ∧ parseS false ([38, 32] ++ textL l) = ([], 0, 2) := by
  have h0 := may_ne h
  obtain ⟨n, hn⟩ : ∃ n, l[l.length - 1]? = some n := ⟨_, List.getElem?_eq_getElem (by omega)⟩
  have hk : lastKind l = n.kind := by
    unfold lastKind
    rw [List.getLast?_eq_getElem?, hn]; rfl
  rw [hk] at hg
  have ow := own2_all h _ n hn
  rw [← textL_eq h] at ow
  have row := fun ts (ho : Own2 l (l.length - 1) n ts) (d : Nat) (hdd : d + nestL l ≤ 40) rest hno => text_row (rest := rest) h ho.1 (by omega) hdd hno
  rw [hg] at row
  have hlen : ∀ b : List UInt8, (textL l ++ b).length = (textL l).length + b.length := fun b => List.length_append
  refine ⟨?_, ?_, ?_, ?_, ?_⟩
  · obtain ⟨ts, ho, hx⟩ := ow 0 [32, 112] (fun c hc => by injection hc with hc; rw [← hc]; decide)
    have e : lexAt (0 + (textL l).length) [32, 112] = .ok [⟨1, [112], 0, (textL l).length + 1⟩, ⟨0, [], 0, (textL l).length + 2⟩] := by
      rw [Nat.zero_add, lexAt_blank _ _ (by decide), lexAt_go _ (show piece 112 [] = some (1, some (1, [112], 0)) by decide)]
      rfl
    rw [e] at hx
    exact parse_of (by rw [hlen]; show _ + 2 ≤ 2000; omega) hx (row ts ho 0 (by omega) _ (noop_of (by show betwK false [112] = (0, 0); decide)))
  · obtain ⟨ts, ho, hx⟩ := ow 1 [] (fun c hc => by cases hc)
    rw [List.append_nil, lexAt_nil] at hx
    have e : lexAt 0 ([40] ++ textL l) = .ok (⟨3, [40], 0, 0⟩ :: (ts ++ [⟨0, [], 0, 1 + (textL l).length⟩])) := by
      show lexAt 0 (40 :: textL l) = _
      rw [lexAt_go 0 ((piece_sign (c := 40) (by decide) (by decide) (by decide) (by decide)).1 (by decide))]
      show (lexAt 1 (textL l)).before _ = _
      rw [hx]
      rfl
    have hD := row ts ho 1 (by omega) [⟨0, [], 0, 1 + (textL l).length⟩] (noop_end _ _)
    have hP : D (.opd false) 0 ⟨⟨3, [40], 0, 0⟩ :: (ts ++ [⟨0, [], 0, 1 + (textL l).length⟩]), 0, []⟩ (.bad 2 (1 + (textL l).length)) :=
      D.parMiss (s := ⟨⟨3, [40], 0, 0⟩ :: (ts ++ [⟨0, [], 0, 1 + (textL l).length⟩]), 0, []⟩) (s1 := ⟨[⟨0, [], 0, 1 + (textL l).length⟩], l.length, l⟩) rfl (by decide) hD (by show ([] : List UInt8) ≠ [41]; decide)
    have := parse_of (g := false) (by show (textL l).length + 1 ≤ 2000; omega) e (bad_rows hP 0 (by decide))
    rw [this, Nat.add_comm 1]
    rfl
  · obtain ⟨ts, ho, hx⟩ := ow 0 [41] (fun c hc => by injection hc with hc; rw [← hc]; decide)
    have e : lexAt (0 + (textL l).length) [41] = .ok [⟨3, [41], 0, (textL l).length⟩, ⟨0, [], 0, (textL l).length + 1⟩] := by
      rw [Nat.zero_add, lexAt_go _ (show piece 41 [] = some (1, some (3, [41], 0)) by decide)]
      rfl
    rw [e] at hx
    exact parse_of (by rw [hlen]; show _ + 1 ≤ 2000; omega) hx (row ts ho 0 (by omega) _ (noop_of (by show betwK false [41] = (0, 0); decide)))
  · obtain ⟨ts, ho, hx⟩ := ow 0 [32, 38] (fun c hc => by injection hc with hc; rw [← hc]; decide)
    have e : lexAt (0 + (textL l).length) [32, 38] = .ok [⟨3, [38], 0, (textL l).length + 1⟩, ⟨0, [], 0, (textL l).length + 2⟩] := by
      rw [Nat.zero_add, lexAt_blank _ _ (by decide), lexAt_go _ (show piece 38 [] = some (1, some (3, [38], 0)) by decide)]
      rfl
    rw [e] at hx
    have hsz : sz l (l.length - 1) = l.length := by unfold sz; rw [start_root h]; omega
    have hb := ho.2 hg 0 (by decide) (by have := rank_pos n.kind; omega) 0 0 ((textL l).length + 1) ((textL l).length + 2) (by have : nestL l = nst l (l.length - 1) := if_pos h; omega) (by rw [hsz]; omega)
    rw [start_root h, List.take_zero] at hb
    exact parse_of (by rw [hlen]; show _ + 2 ≤ 2000; omega) hx hb
  · obtain ⟨ts, ho, hx⟩ := ow 2 [] (fun c hc => by cases hc)
    rw [List.append_nil, lexAt_nil] at hx
    have e : lexAt 0 ([38, 32] ++ textL l) = .ok (⟨3, [38], 0, 0⟩ :: (ts ++ [⟨0, [], 0, 2 + (textL l).length⟩])) := by
      show lexAt 0 (38 :: 32 :: textL l) = _
      rw [lexAt_go 0 ((piece_sign (c := 38) (by decide) (by decide) (by decide) (by decide)).1 (by decide))]
      show (lexAt 1 (32 :: textL l)).before _ = _
      rw [lexAt_blank _ _ (by decide), hx]
      rfl
    exact parse_of (by show (textL l).length + 2 ≤ 2000; omega) e (bad_rows (none_bad (t := ⟨3, [38], 0, 0⟩) rfl (by show ([38] : List UInt8) ≠ [40]; decide) rfl rfl) 0 (by decide))
end Go.Proofs.YtnoghlhggeffnaaDoor.Show

namespace Go.Proofs.YtnoghlhggeffnaaDoor.Show
open Go.RowKit Go.Proofs.YtnoghlhggeffnaaDoor.Tree Go.Proofs.YtnoghlhggeffnaaDoor.Itoa Go.Proofs.YtnoghlhggeffnaaDoor.Ints

set_option maxHeartbeats 40000000 in
set_option maxRecDepth 100000 in
theorem lawRefuses (A : Option Addr) (n c : Nat) (zs : List Int) (w : World) (h : Rd .u16 w A n zs) (hn : n ≤ maxLen) (hT : Tab10 w) :
    Calls Tryd.prog 4 #[.slice A n c] w fun e w' => e = .returned (.bool true) ∧ Below w.heap.size w w' := by
  have HMK := Lib.hid (lawMake A n c zs false w h hn)
  have hz := fun z hz => wf_u16 (h.all z hz)
  have hmo := make_ok false zs hz
  obtain ⟨F, hF⟩ : ∃ F, makeL false zs = F := ⟨_, rfl⟩
  rw [hF] at HMK hmo
  have HMO := Lib.hid hmo
  have HTX := Lib.hid (fun (A' : Option Addr) (m c' : Nat) (l : List Nd) (W : World) (hl : l.length = m) (hm : m ≤ 100) (hN : Nodes Any W A' l) (hb : Below w.heap.size w W) => refText A' m c' l W hl (by omega) hN (hT.later hb))
  have HPF := Lib.hid (fun (t : ByteArray) (W : World) (ht : t.size ≤ maxLen) => Parse.landParse t W ht)
  have HAW := Lib.hid (fun W => Parse.awake W)
  clear h hn hz hT hmo hF
  go_enter Tryd.func4, Tryd.ntmps4
  go_wp2_with fail
  refine HMK.out.mono ?_
  rintro e w1 ⟨A1, c1, rfl, hN1, -, -, hb1⟩
  have HN1 := Lib.hid hN1
  have HB1 := Lib.hid hb1
  clear hN1 hb1
  obtain ⟨n1, hn1⟩ : ∃ n, F.length = n := ⟨_, rfl⟩
  have HL1 := Lib.hid (And.intro hn1 (show n1 ≤ 100 by rw [← hn1]; exact HMO.out.2))
  rw [hn1]
  clear hn1
  go_wp2_with fail
  refine (HTX.out A1 n1 c1 F w1 HL1.out.1 HL1.out.2 HN1.out HB1.out).mono ?_
  rintro e w2 ⟨rfl, hb2⟩
  have HB2 := Lib.hid (HB1.out.trans (hb2.mono HB1.out.size))
  have HN2 := Lib.hid (HN1.out.below hb2)
  clear hb2
  obtain ⟨S, hS⟩ : ∃ S, Lex.bytes (textL F) = S := ⟨_, rfl⟩
  have hz1 : S.size = (textL F).length := by rw [← hS, bytes_len]
  have hq1 : S.data.toList = textL F := by rw [← hS]; rfl
  have hzb : S.size ≤ 6400 := by have := textL_len HMO.out.1.1; have := HMO.out.2; omega
  have HSZ := Lib.hid hz1
  have HSQ := Lib.hid hq1
  rw [hS]
  clear hS hz1 hq1
  have HNF := Lib.hid (fun W (hb : Below w2.heap.size w2 W) => refNest A1 n1 c1 F W HL1.out.1 (by have := HL1.out.2; omega) (HN2.out.below hb))
  by_cases h1 : S.size ≤ 1991
  · have h1' : (S.size : Int) ≤ 1991 := by omega
    have h1'' : ¬ ((1991 : Int) < (S.size : Int)) := by omega
    by_cases h2 : nestL F < 40
    · have h2' : ¬ (40 : Int) ≤ (nestL F : Int) := by omega
      have h2'' : (nestL F : Int) < 40 := by omega
      have hR := refuse_all HMO.out.1.1 HMO.out.1.2.1 HMO.out.2 (by rw [← HSZ.out]; exact h1) h2
      rw [← HSZ.out] at hR
      have hmx : maxLen = 9223372036854775807 := rfl
      have hszz : ∀ b : ByteArray, b.size ≤ 2 → (S ++ b).size ≤ maxLen ∧ (b ++ S).size ≤ maxLen := fun b hb => by
        rw [ByteArray.size_append, ByteArray.size_append]; omega
      have HP1 := Lib.hid (fun W => HPF.out (S ++ { data := #[32, 112] }) W (hszz _ (by decide)).1)
      have HP2 := Lib.hid (fun W => HPF.out ({ data := #[40] } ++ S) W (hszz _ (by decide)).2)
      have HP3 := Lib.hid (fun W => HPF.out (S ++ { data := #[41] }) W (hszz _ (by decide)).1)
      have HP4 := Lib.hid (fun W => HPF.out (S ++ { data := #[32, 38] }) W (hszz _ (by decide)).1)
      have HP5 := Lib.hid (fun W => HPF.out ({ data := #[38, 32] } ++ S) W (hszz _ (by decide)).2)
      rw [list_app, HSQ.out] at HP1 HP2 HP3 HP4 HP5
      rw [show Parse.parseS false (textL F ++ ({ data := #[32, 112] } : ByteArray).data.toList) = _ from hR.1] at HP1
      rw [show Parse.parseS false (({ data := #[40] } : ByteArray).data.toList ++ textL F) = _ from hR.2.1] at HP2
      rw [show Parse.parseS false (textL F ++ ({ data := #[41] } : ByteArray).data.toList) = _ from hR.2.2.1] at HP3
      rw [show Parse.parseS false (textL F ++ ({ data := #[32, 38] } : ByteArray).data.toList) = _ from hR.2.2.2.1] at HP4
      rw [show Parse.parseS false (({ data := #[38, 32] } : ByteArray).data.toList ++ textL F) = _ from hR.2.2.2.2] at HP5
      have y1 : ¬ 9223372036854775807 < S.size + 2 := by omega
      have y2 : ¬ 9223372036854775807 < 1 + S.size := by omega
      have y3 : ¬ 9223372036854775807 < S.size + 1 := by omega
      have y4 : ¬ 9223372036854775807 < 2 + S.size := by omega
      clear hR hmx hszz h1 h2
      go_wp2_with fail
      refine (HNF.out _ (Below.refl _ _)).mono ?_
      rintro e w3 ⟨rfl, hb⟩
      have HB3 := Lib.hid (HB2.out.trans (hb.mono HB2.out.size))
      clear hb
      go_wp2_with fail
      refine (HP1.out _).mono ?_
      rintro e w4 ⟨X1, m1, d1, rfl, -, -, -, -, hb⟩
      have HB4 := Lib.hid (HB3.out.trans (hb.mono HB3.out.size))
      clear hb
      go_wp2_with fail
      refine (HP2.out _).mono ?_
      rintro e w5 ⟨X2, m2, d2, rfl, -, -, -, -, hb⟩
      have HB5 := Lib.hid (HB4.out.trans (hb.mono HB4.out.size))
      clear hb
      go_wp2_with fail
      refine (HP3.out _).mono ?_
      rintro e w6 ⟨X3, m3, d3, rfl, -, -, -, -, hb⟩
      have HB6 := Lib.hid (HB5.out.trans (hb.mono HB5.out.size))
      clear hb
      go_wp2_with fail
      refine (HP4.out _).mono ?_
      rintro e w7 ⟨X4, m4, d4, rfl, -, -, -, -, hb⟩
      have HB7 := Lib.hid (HB6.out.trans (hb.mono HB6.out.size))
      clear hb
      go_wp2_with fail
      refine (HP5.out _).mono ?_
      rintro e w8 ⟨X5, m5, d5, rfl, -, -, -, -, hb⟩
      have HB8 := Lib.hid (HB7.out.trans (hb.mono HB7.out.size))
      clear hb
      go_wp2_with fail
      refine (HAW.out _).mono ?_
      rintro e w9 ⟨rfl, hb⟩
      have HB9 := Lib.hid (HB8.out.trans (hb.mono HB8.out.size))
      clear hb
      go_wp2_with fail
      go_ret
      exact ⟨rfl, HB9.out⟩
    · have h2' : (40 : Int) ≤ (nestL F : Int) := by omega
      clear h1 h2
      go_wp2_with fail
      refine (HNF.out _ (Below.refl _ _)).mono ?_
      rintro e w3 ⟨rfl, hb⟩
      have HB3 := Lib.hid (HB2.out.trans (hb.mono HB2.out.size))
      clear hb
      go_wp2_with fail
      refine (HAW.out _).mono ?_
      rintro e w9 ⟨rfl, hb⟩
      have HB9 := Lib.hid (HB3.out.trans (hb.mono HB3.out.size))
      clear hb
      go_wp2_with fail
      refine bodyPost_ret (v := .bool true) (by simp [results, Tryd.results4, go_sem]) rfl ?_
      exact ⟨rfl, HB9.out⟩
  · have h1' : (1991 : Int) < (S.size : Int) := by omega
    clear h1
    go_wp2_with fail
    refine (HAW.out _).mono ?_
    rintro e w9 ⟨rfl, hb⟩
    have HB9 := Lib.hid (HB2.out.trans (hb.mono HB2.out.size))
    clear hb
    go_wp2_with fail
    refine bodyPost_ret (v := .bool true) (by simp [results, Tryd.results4, go_sem]) rfl ?_
    exact ⟨rfl, HB9.out⟩
end Go.Proofs.YtnoghlhggeffnaaDoor.Show
