/-
  The walk of the law ShowNest. By an AI agent.
-/
import Derived.Test.YthcbgneoonekkaaDoorGShowNest32
import Derived.Test.YthcbgneoonekkaaDoorGShowNest35
import Derived.Test.YthcbgneoonekkaaDoorGShowNest42
import Derived.Test.YthcbgneoonekkaaDoorGShowNest29
namespace Go.Proofs.YthcbgneoonekkaaDoor.Show
open Go.RowKit Go.Proofs.YthcbgneoonekkaaDoor.Tree Go.Proofs.YthcbgneoonekkaaDoor.Itoa Go.Proofs.YthcbgneoonekkaaDoor.Ints

def nd0 (k lo hi : Int) : Nd := ⟨k, ⟨#[]⟩, lo, hi, []⟩
theorem nd0_ok (k lo hi : Int) (w : World) (h1 : small64 k) (h2 : small64 lo) (h3 : small64 hi) : NodeOk w (nd0 k lo hi) none 0 :=
  ⟨h1, h2, h3, by show 0 ≤ maxLen; exact Nat.zero_le _, Rd.nil _ _ _, Nat.le_refl _, by decide⟩
/-- A text in brackets, or bare. -/
def wrapS (s : ByteArray) (x : Nat) : ByteArray := if x = 1 then { data := #[40] } ++ s ++ { data := #[41] } else s
theorem lawWrap (s : ByteArray) (x : Nat) (w : World) (hx : x ≤ 1) (hs : s.size ≤ 1000000) : Calls Tryd.prog 9 #[.string s, .int .i64 (x : Int)] w fun e w' => e = .returned (.string (wrapS s x)) ∧ w = w' := by
  have z1 : ¬ 9223372036854775807 < 1 + s.size := by omega
  have z2 : ¬ 9223372036854775807 < 1 + s.size + 1 := by omega
  unfold wrapS
  have hw : x = 0 ∨ x = 1 := by omega
  rcases hw with rfl | rfl
  · rw [if_neg (by decide)]
    go_enter Tryd.func9, Tryd.ntmps9
    go_wp2
    go_ret
    exact ⟨rfl, rfl⟩
  · rw [if_pos rfl]
    go_enter Tryd.func9, Tryd.ntmps9
    go_wp2
    go_ret
    exact ⟨rfl, rfl⟩
theorem bare_not (c : Int) : bare 4 0 c = decide (5 ≤ rank c) ∧ bare 19 0 c = decide (5 ≤ rank c) ∧ bare 17 0 c = true := by
  unfold bare
  rw [if_neg (by decide), if_neg (by decide), if_neg (by decide), if_neg (by decide), if_neg (by decide), if_neg (by decide), if_neg (by decide), if_pos (by decide)]
  exact ⟨rfl, rfl, rfl⟩
/-- What the law tells of a formula under a sign. -/
theorem not_facts {f : List Nd} (hm : mayL f = true) (hk : regKind (lastKind f) = false) {lo hi : Int} (hs : Ival.mayS lo hi = true) :
    ∃ b : Nat, b ≤ 1 ∧ mayL (overL (nd0 4 0 0) f []) = true ∧ mayL (overL (nd0 19 0 0) f []) = true ∧ nestL (overL (nd0 4 0 0) f []) = nestL f + b + 1 ∧ nestL (overL (nd0 19 0 0) f []) = nestL f + b + 1 ∧
      nestL (overL (nd0 4 0 0) (overL (nd0 4 0 0) f []) []) = nestL f + b + 2 ∧ nestL (overL (nd0 17 lo hi) (overL (nd0 19 0 0) f []) []) = nestL f + b + 2 ∧
      textL (overL (nd0 4 0 0) f []) = (if b = 1 then [33, 40] ++ textL f ++ [41] else [33] ++ textL f) := by
  have hk4 : regKind (lastKind f) = takesReg (nd0 4 0 0).kind := by rw [hk]; decide
  have hk19 : regKind (lastKind f) = takesReg (nd0 19 0 0).kind := by rw [hk]; decide
  have m4 := may_over1 (n := nd0 4 0 0) (by decide) (by decide) hm hk4
  have m19 := may_over1 (n := nd0 19 0 0) (by decide) (by decide) hm hk19
  obtain ⟨t4, n4⟩ := over1_text (n := nd0 4 0 0) (by decide) (by decide) hm hk4
  obtain ⟨-, n19⟩ := over1_text (n := nd0 19 0 0) (by decide) (by decide) hm hk19
  have l4 : lastKind (overL (nd0 4 0 0) f []) = 4 := over_last _ _ _
  have l19 : lastKind (overL (nd0 19 0 0) f []) = 19 := over_last _ _ _
  have hf17 : fieldsB (nd0 17 lo hi) = true := by
    unfold fieldsB nameOkB okSpan
    rw [Bool.and_eq_true, Bool.and_eq_true]
    refine ⟨show (formKind 17 || regKind 17) = true by decide, show (if (17 : Int) = 3 then Lex.nameS [] else decide (([] : List UInt8) = [])) = true by decide, ?_⟩
    show (if timed 17 = true then Ival.mayS lo hi else decide (lo = 0 ∧ hi = 0)) = true
    rw [if_pos (show timed 17 = true by decide)]
    exact hs
  obtain ⟨-, n44⟩ := over1_text (n := nd0 4 0 0) (by decide) (by decide) m4 (by rw [l4]; decide)
  obtain ⟨-, n17⟩ := over1_text (n := nd0 17 lo hi) (f := overL (nd0 19 0 0) f []) (show kidc 17 = 1 by decide) hf17 m19 (by rw [l19]; show regKind 19 = takesReg 17; decide)
  obtain ⟨q4, q19, -⟩ := bare_not (lastKind f)
  unfold wrapD at n4 n19 n44 n17
  have e4 : (nd0 4 0 0).kind = 4 := rfl
  have e19 : (nd0 19 0 0).kind = 19 := rfl
  have e17 : (nd0 17 lo hi).kind = 17 := rfl
  rw [e4, l4] at n44
  rw [e17, l19] at n17
  rw [e4] at n4
  rw [e19] at n19
  have d4 : (if deeper 4 = true then 1 else 0) = 1 := by decide
  have d19 : (if deeper 19 = true then 1 else 0) = 1 := by decide
  have d17 : (if deeper 17 = true then 1 else 0) = 1 := by decide
  have b44 : bare 4 0 4 = true := by decide
  have b17 : bare 17 0 19 = true := by decide
  rw [d4] at n4 n44
  rw [d19] at n19
  rw [d17] at n17
  rw [b44, if_pos rfl] at n44
  rw [b17, if_pos rfl] at n17
  unfold wrapT at t4
  rw [e4] at t4
  rw [q4] at n4 t4
  rw [q19] at n19
  have hnode : ∀ K : List UInt8, nodeT (nd0 4 0 0) [K] = [33] ++ K := fun K => by
    unfold nodeT
    rw [if_neg (by decide), if_neg (by decide), if_neg (by decide), if_neg (by decide), if_pos (by decide)]
    rfl
  rw [hnode] at t4
  cases hb : decide (5 ≤ rank (lastKind f))
  · rw [hb] at n4 n19 t4
    rw [if_neg (by decide)] at n4 n19 t4
    refine ⟨1, Nat.le_refl _, m4, m19, n4, n19, by rw [n44, n4], by rw [n17, n19], ?_⟩
    rw [t4, if_pos rfl]
    rfl
  · rw [hb] at n4 n19 t4
    rw [if_pos rfl] at n4 n19 t4
    refine ⟨0, by decide, m4, m19, n4, n19, by rw [n44, n4], by rw [n17, n19], ?_⟩
    rw [t4, if_neg (by decide)]
/-- What the law tells of two formulas with a sign between them. -/
theorem both_facts {f g : List Nd} (hm : mayL f = true) (hk : regKind (lastKind f) = false) (hm2 : mayL g = true) (hk2 : regKind (lastKind g) = false) {k : Int} {sg : List UInt8} (hkk : (k = 5 ∧ sg = [32, 38, 32]) ∨ (k = 6 ∧ sg = [32, 124, 32]) ∨ (k = 7 ∧ sg = [32, 45, 62, 32])) :
    ∃ x y : Nat, x ≤ 1 ∧ y ≤ 1 ∧ mayL (overL (nd0 k 0 0) f g) = true ∧ nestL (overL (nd0 k 0 0) f g) = max (nestL f + x) (nestL g + y) ∧
      Lex.bytes (textL (overL (nd0 k 0 0) f g)) = wrapS (Lex.bytes (textL f)) x ++ Lex.bytes sg ++ wrapS (Lex.bytes (textL g)) y := by
  have hq : ∀ (k : Int) (sg : List UInt8), kidc (nd0 k 0 0).kind = 2 → fieldsB (nd0 k 0 0) = true → takesReg k = false → deeper k = false → (∀ K J : List UInt8, nodeT (nd0 k 0 0) [K, J] = K ++ sg ++ J) →
      ∃ x y : Nat, x ≤ 1 ∧ y ≤ 1 ∧ mayL (overL (nd0 k 0 0) f g) = true ∧ nestL (overL (nd0 k 0 0) f g) = max (nestL f + x) (nestL g + y) ∧
        Lex.bytes (textL (overL (nd0 k 0 0) f g)) = wrapS (Lex.bytes (textL f)) x ++ Lex.bytes sg ++ wrapS (Lex.bytes (textL g)) y := by
    intro k sg h1 h2 h3 h4 h5
    have hkf : regKind (lastKind f) = takesReg (nd0 k 0 0).kind := by rw [hk]; exact h3.symm
    have hkg : regKind (lastKind g) = takesReg (nd0 k 0 0).kind := by rw [hk2]; exact h3.symm
    obtain ⟨t, d⟩ := over2_text h1 h2 hm hm2 hkf hkg
    have e4 : (nd0 k 0 0).kind = k := rfl
    rw [e4] at t d
    rw [h4] at d
    rw [h5] at t
    unfold wrapD at d
    unfold wrapT at t
    have hw1 : ∀ l : List UInt8, Lex.bytes l = wrapS (Lex.bytes l) 0 := fun l => by unfold wrapS; rw [if_neg (by decide)]
    have hw2 : ∀ l : List UInt8, Lex.bytes ([40] ++ l ++ [41]) = wrapS (Lex.bytes l) 1 := fun l => by unfold wrapS; rw [if_pos rfl, bytes_plus, bytes_plus]; rfl
    refine ⟨if bare k 0 (lastKind f) = true then 0 else 1, if bare k 1 (lastKind g) = true then 0 else 1, by split <;> decide, by split <;> decide, may_over2 h1 h2 hm hm2 hkf hkg, by rw [d]; rfl, ?_⟩
    rw [t, bytes_plus, bytes_plus]
    congr 1
    · congr 1
      split
      · exact hw1 _
      · exact hw2 _
    · split
      · exact hw1 _
      · exact hw2 _
  have hn : ∀ (k : Int) (sg : List UInt8) (K J : List UInt8), k ≠ 1 → k ≠ 2 → k ≠ 3 → k ≠ 18 → k ≠ 4 → k ≠ 19 → k ≠ 22 → ¬ (k = 16 ∨ k = 17) → [32] ++ word (nd0 k 0 0) ++ [32] = sg → nodeT (nd0 k 0 0) [K, J] = K ++ sg ++ J := by
    intro k sg K J a1 a2 a3 a4 a5 a6 a7 a8 e
    unfold nodeT
    rw [show (nd0 k 0 0).kind = k from rfl, if_neg a1, if_neg a2, if_neg a3, if_neg a4, if_neg a5, if_neg a6, if_neg a7, if_neg a8, if_neg (show ¬ [K, J].length = 1 by show ¬ 2 = 1; omega), ← e]
    simp
  rcases hkk with ⟨rfl, rfl⟩ | ⟨rfl, rfl⟩ | ⟨rfl, rfl⟩
  · exact hq 5 _ (by decide) (by decide) (by decide) (by decide) fun K J => hn 5 _ K J (by decide) (by decide) (by decide) (by decide) (by decide) (by decide) (by decide) (by decide) (by decide)
  · exact hq 6 _ (by decide) (by decide) (by decide) (by decide) fun K J => hn 6 _ K J (by decide) (by decide) (by decide) (by decide) (by decide) (by decide) (by decide) (by decide) (by decide)
  · exact hq 7 _ (by decide) (by decide) (by decide) (by decide) fun K J => hn 7 _ K J (by decide) (by decide) (by decide) (by decide) (by decide) (by decide) (by decide) (by decide) (by decide)

theorem toList_ne {a b : ByteArray} (h : a.size ≠ b.size) : (a.toList == b.toList) = false := beq_eq_false_iff_ne.2 fun e => by
  rw [ByteArray.toList_eq, ByteArray.toList_eq] at e
  have := congrArg List.length e
  rw [Array.length_toList, Array.length_toList] at this
  exact h this
theorem wrapS_size (s : ByteArray) (x : Nat) : (wrapS s x).size ≤ s.size + 2 := by
  unfold wrapS
  split
  · rw [ByteArray.size_append, ByteArray.size_append]
    show 1 + s.size + 1 ≤ _
    omega
  · omega
theorem span_good (n : Int) (h : 0 ≤ n ∧ n ≤ 255) : Ival.mayS (spanLo n) (spanHi n) = true := by
  unfold Ival.mayS spanHi spanLo
  rw [decide_eq_true_eq]
  split <;> split <;> omega
theorem len_small {f : List Nd} (h : mayL f = true) (hl : f.length ≤ 103) : (textL f).length ≤ 6592 := by
  have := textL_len h
  omega
theorem nest_small {f : List Nd} (h : mayL f = true) (hl : f.length ≤ 103) : nestL f ≤ 208 := by
  have e : nestL f = nst f (f.length - 1) := if_pos h
  have := nst_bound h (f.length - 1) (by have := may_ne h; omega)
  omega
set_option maxHeartbeats 40000000 in
set_option maxRecDepth 100000 in
theorem lawNest7 (A B : Option Addr) (n m c d : Nat) (zs ys : List Int) (how : Int) (w : World) (h : Rd .u16 w A n zs) (hn : n ≤ maxLen) (h2 : Rd .u16 w B m ys) (hm : m ≤ maxLen) (hh : 0 ≤ how ∧ how ≤ 255) (hT : Tabs w) :
    Calls Tryd.prog 3 #[.slice A n c, .slice B m d, .int .u8 how] w fun e w' => e = .returned (.bool true) ∧ Below w.heap.size w w' := by
  have HMK := Lib.hid (lawMake A n c zs false w h hn)
  have HMG := Lib.hid (fun W (hb : Below w.heap.size w W) => lawMake B m d ys false W (h2.below hb) hm)
  have hmo := make_ok false zs (fun z hz => wf_u16 (h.all z hz))
  have hro := make_ok false ys (fun z hz => wf_u16 (h2.all z hz))
  obtain ⟨F, hF⟩ : ∃ F, makeL false zs = F := ⟨_, rfl⟩
  obtain ⟨G, hG⟩ : ∃ G, makeL false ys = G := ⟨_, rfl⟩
  rw [hF] at HMK hmo
  rw [hG] at HMG hro
  have hfk : regKind (lastKind F) = false := hmo.1.2.1
  have hgk : regKind (lastKind G) = false := hro.1.2.1
  have HMO := Lib.hid hmo
  have HRO := Lib.hid hro
  have HTB := Lib.hid (fun W (hb : Below w.heap.size w W) => hT.later hb)
  have HAW := Lib.hid (fun W (hb : Below w.heap.size w W) => awake W (hT.later hb))
  obtain ⟨b, hb1, m4, m19, n4, n19, n44, n17, t4⟩ := not_facts hmo.1.1 hfk (span_good how hh)
  have hhw : how % 3 = 0 ∨ how % 3 = 1 ∨ how % 3 = 2 := by omega
  obtain ⟨K, sg, hkk, hK⟩ : ∃ (K : Int) (sg : List UInt8), ((K = 5 ∧ sg = [32, 38, 32]) ∨ (K = 6 ∧ sg = [32, 124, 32]) ∨ (K = 7 ∧ sg = [32, 45, 62, 32])) ∧ K = 5 + how % 3 := by
    rcases hhw with e | e | e
    · exact ⟨5, _, Or.inl ⟨rfl, rfl⟩, by omega⟩
    · exact ⟨6, _, Or.inr (Or.inl ⟨rfl, rfl⟩), by omega⟩
    · exact ⟨7, _, Or.inr (Or.inr ⟨rfl, rfl⟩), by omega⟩
  obtain ⟨x, y, hx, hy, mB, nB, tB⟩ := both_facts hmo.1.1 hfk hro.1.1 hgk hkk
  have lF := hmo.2
  have lG := hro.2
  have hvF := nest_small hmo.1.1 (by omega)
  have hvG := nest_small hro.1.1 (by omega)
  have hsF := len_small hmo.1.1 (by omega)
  have hsG := len_small hro.1.1 (by omega)
  obtain ⟨TF, hTF⟩ : ∃ T, Lex.bytes (textL F) = T := ⟨_, rfl⟩
  obtain ⟨TG, hTG⟩ : ∃ T, Lex.bytes (textL G) = T := ⟨_, rfl⟩
  have zF : TF.size ≤ 6592 := by rw [← hTF, bytes_size]; exact hsF
  have zG : TG.size ≤ 6592 := by rw [← hTG, bytes_size]; exact hsG
  rw [hTF, hTG] at tB
  have t4' : Lex.bytes (textL (overL (nd0 4 0 0) F [])) = if b = 1 then { data := #[33, 40] } ++ TF ++ { data := #[41] } else { data := #[33] } ++ TF := by
    rw [t4]
    split
    · rw [bytes_plus, bytes_plus, hTF]; rfl
    · rw [bytes_plus, hTF]; rfl
  obtain ⟨v, hv⟩ : ∃ v, nestL F = v := ⟨_, rfl⟩
  obtain ⟨u, hu⟩ : ∃ u, nestL G = u := ⟨_, rfl⟩
  rw [hv] at n4 n19 n44 n17 nB hvF
  rw [hu] at nB hvG
  -- the lists' contracts
  have CT := Lib.hid (fun (A' : Option Addr) (q c' : Nat) (l : List Nd) (W : World) (T : ByteArray) (hl : l.length = q) (hm : q ≤ 1000) (hN : Nodes Any W A' l) (hb : Below w.heap.size w W) (ht : Lex.bytes (textL l) = T) =>
    show Calls Tryd.prog 8 #[.slice A' q c'] W fun e w' => e = .returned (.string T) ∧ Below W.heap.size W w' by rw [← ht]; exact landText A' q c' l W hl (by omega) hN (HTB.out W hb))
  have CN := Lib.hid (fun (A' : Option Addr) (q c' : Nat) (l : List Nd) (W : World) (r : Int) (hl : l.length = q) (hm : q ≤ 1000) (hN : Nodes Any W A' l) (ht : (nestL l : Int) = r) =>
    show Calls Tryd.prog 7 #[.slice A' q c'] W fun e w' => e = .returned (.int .i64 r) ∧ Below W.heap.size W w' by rw [← ht]; exact landNest A' q c' l W hl (by omega) hN)
  have NF := Lib.hid (show (nestL F : Int) = (v : Int) by rw [hv])
  have NG := Lib.hid (show (nestL G : Int) = (u : Int) by rw [hu])
  have N4 := Lib.hid (show (nestL (overL (nd0 4 0 0) F []) : Int) = ((v + b + 1 : Nat) : Int) by rw [n4])
  have N19 := Lib.hid (show (nestL (overL (nd0 19 0 0) F []) : Int) = ((v + b + 1 : Nat) : Int) by rw [n19])
  have N44 := Lib.hid (show (nestL (overL (nd0 4 0 0) (overL (nd0 4 0 0) F []) []) : Int) = ((v + b + 1 : Nat) : Int) + 1 by rw [n44]; omega)
  have N17 := Lib.hid (show (nestL (overL (nd0 17 (spanLo how) (spanHi how)) (overL (nd0 19 0 0) F []) []) : Int) = ((v + b + 1 : Nat) : Int) + 1 by rw [n17]; omega)
  have NB := Lib.hid (show (nestL (overL (nd0 K 0 0) F G) : Int) = ((max (v + x) (u + y) : Nat) : Int) by rw [nB])
  have HTF := Lib.hid hTF
  have HTG := Lib.hid hTG
  have HT4 := Lib.hid t4'
  have HTBo := Lib.hid tB
  have M4 := Lib.hid m4
  have M19 := Lib.hid m19
  have OV := Lib.hid (fun (k lo hi : Int) (A' : Option Addr) (q c' : Nat) (l : List Nd) (W : World) (hl : l.length = q) (hq : q ≤ 1000) (hN : Nodes Any W A' l) (h1 : small64 k) (h2 : small64 lo) (h3 : small64 hi) =>
    refOver (nd0 k lo hi) none 0 A' none q 0 c' 0 l [] Any W hl rfl (by omega) (by omega) (nd0_ok k lo hi W h1 h2 h3) hN (Nodes.nil _ _ _) movable_nil)
  obtain ⟨hh0, hh1⟩ := hh
  have HHK := Lib.hid hK
  have HKK := Lib.hid hkk
  have HSP := Lib.hid (span_small how ⟨hh0, by omega⟩)
  obtain ⟨N, hN⟩ : ∃ N, v + b + 1 = N := ⟨_, rfl⟩
  rw [hN] at N4 N19 N44 N17
  have HNN := Lib.hid hN
  have HB1' := Lib.hid hb1
  have HTZ := Lib.hid zF
  have HGZ := Lib.hid zG
  have HXY := Lib.hid (And.intro hx hy)
  have lnN : ∀ k lo hi, (overL (nd0 k lo hi) F []).length = F.length + 1 := fun k lo hi => by rw [over_len]; rfl
  have HLN := Lib.hid lnN
  have hN64 : (N : Int) ≤ 1000 := by omega
  have hN0 : (0 : Int) ≤ (N : Int) := by omega
  have hv64 : (v : Int) ≤ 1000 := by omega
  have hv0 : (0 : Int) ≤ (v : Int) := by omega
  have hu64 : (u : Int) ≤ 1000 := by omega
  have hu0 : (0 : Int) ≤ (u : Int) := by omega
  have k1 : ¬ (N : Int) < 1 + (v : Int) := by omega
  have k2 : ¬ 2 + (v : Int) < (N : Int) := by omega
  clear zF zG h hn h2 hm hT hmo hro hF hG hfk hgk m4 m19 n4 n19 n44 n17 t4 hhw hkk hK mB nB tB lF lG hvF hvG hsF hsG hTF hTG t4' hv hu hN hb1 hx hy lnN
  go_enter Tryd.func3, Tryd.ntmps3
  go_wp2_with fail
  refine HMK.out.mono ?_
  rintro e w1 ⟨A1, c1, rfl, hN1, -, -, hb1⟩
  have HN1 := Lib.hid hN1
  have HB1 := Lib.hid hb1
  clear hN1 hb1
  go_wp2_with fail
  refine (HMG.out _ HB1.out).mono ?_
  rintro e w2 ⟨A2, c2, rfl, hN2, -, -, hb2⟩
  have HN1 := Lib.hid (HN1.out.below hb2)
  have HN2 := Lib.hid hN2
  have HB2 := Lib.hid (HB1.out.trans (hb2.mono HB1.out.size))
  clear hN2 hb2
  obtain ⟨n1, hn1⟩ : ∃ n, F.length = n := ⟨_, rfl⟩
  obtain ⟨n2, hn2⟩ : ∃ n, G.length = n := ⟨_, rfl⟩
  have HL1 := Lib.hid (And.intro hn1 (show n1 ≤ 100 by rw [← hn1]; exact HMO.out.2))
  have HL2 := Lib.hid (And.intro hn2 (show n2 ≤ 100 by rw [← hn2]; exact HRO.out.2))
  rw [hn1, hn2]
  have HL4 := Lib.hid (show ∀ k lo hi, (overL (nd0 k lo hi) F []).length = n1 + 1 from fun k lo hi => by rw [HLN.out, hn1])
  have HLB := Lib.hid (show (overL (nd0 K 0 0) F G).length = n1 + n2 + 1 by rw [over_len, hn1, hn2])
  clear hn1 hn2
  have hn1i : (n1 : Int) ≤ 100 := by have := HL1.out.2; omega
  have hn2i : (n2 : Int) ≤ 100 := by have := HL2.out.2; omega
  go_wp2_with fail
  refine (OV.out 4 0 0 A1 n1 c1 F w2 HL1.out.1 (by have := HL1.out.2; omega) HN1.out (by unfold small64; decide) (by unfold small64; decide) (by unfold small64; decide)).mono ?_
  rintro e w3 ⟨A3, c3, rfl, hN3, -, -, hb3⟩
  rw [HL4.out]
  have HN1 := Lib.hid (HN1.out.below hb3)
  have HN2 := Lib.hid (HN2.out.below hb3)
  have HN3 := Lib.hid hN3.any
  have HB3 := Lib.hid (HB2.out.trans (hb3.mono HB2.out.size))
  clear hN3 hb3
  go_wp2_with fail
  refine (OV.out 19 0 0 A1 n1 c1 F w3 HL1.out.1 (by have := HL1.out.2; omega) HN1.out (by unfold small64; decide) (by unfold small64; decide) (by unfold small64; decide)).mono ?_
  rintro e w4 ⟨A4, c4, rfl, hN4, -, -, hb4⟩
  rw [HL4.out]
  have HN1 := Lib.hid (HN1.out.below hb4)
  have HN2 := Lib.hid (HN2.out.below hb4)
  have HN3 := Lib.hid (HN3.out.below hb4)
  have HN4 := Lib.hid hN4.any
  have HB4 := Lib.hid (HB3.out.trans (hb4.mono HB3.out.size))
  clear hN4 hb4
  go_wp2_with fail
  refine (lawSpan how w4 hh0 (by omega)).mono ?_
  rintro e w5 ⟨rfl, hb5⟩
  have HN1 := Lib.hid (HN1.out.below hb5)
  have HN2 := Lib.hid (HN2.out.below hb5)
  have HN3 := Lib.hid (HN3.out.below hb5)
  have HN4 := Lib.hid (HN4.out.below hb5)
  have HB5 := Lib.hid (HB4.out.trans (hb5.mono HB4.out.size))
  clear hb5
  obtain ⟨slo, hslo⟩ : ∃ x, spanLo how = x := ⟨_, rfl⟩
  obtain ⟨shi, hshi⟩ : ∃ x, spanHi how = x := ⟨_, rfl⟩
  rw [hslo, hshi] at HSP N17 ⊢
  clear hslo hshi
  go_wp2_with fail
  refine (OV.out 17 slo shi A4 (n1 + 1) c4 (overL (nd0 19 0 0) F []) w5 (HL4.out _ _ _) (by have := HL1.out.2; omega) HN4.out (by unfold small64; decide) HSP.out.1 HSP.out.2).mono ?_
  rintro e w6 ⟨A5, c5, rfl, hN5, -, -, hb6⟩
  have hl5 : (overL (nd0 17 slo shi) (overL (nd0 19 0 0) F []) []).length = n1 + 2 := by rw [over_len, HL4.out]; rfl
  rw [hl5]
  have HL5 := Lib.hid hl5
  have HN1 := Lib.hid (HN1.out.below hb6)
  have HN2 := Lib.hid (HN2.out.below hb6)
  have HN3 := Lib.hid (HN3.out.below hb6)
  have HN4 := Lib.hid (HN4.out.below hb6)
  have HN5 := Lib.hid hN5.any
  have HB6 := Lib.hid (HB5.out.trans (hb6.mono HB5.out.size))
  clear hN5 hb6 hl5
  go_wp2_with fail
  refine (CN.out A3 (n1 + 1) c3 _ w6 _ (HL4.out 4 0 0) (by have := HL1.out.2; omega) HN3.out N4.out).mono ?_
  rintro e w7 ⟨rfl, hb7⟩
  have HN1 := Lib.hid (HN1.out.below hb7)
  have HN2 := Lib.hid (HN2.out.below hb7)
  have HN3 := Lib.hid (HN3.out.below hb7)
  have HN4 := Lib.hid (HN4.out.below hb7)
  have HN5 := Lib.hid (HN5.out.below hb7)
  have HB7 := Lib.hid (HB6.out.trans (hb7.mono HB6.out.size))
  clear hb7
  go_wp2_with fail
  refine (OV.out 4 0 0 A3 (n1 + 1) c3 (overL (nd0 4 0 0) F []) w7 (HL4.out _ _ _) (by have := HL1.out.2; omega) HN3.out (by unfold small64; decide) (by unfold small64; decide) (by unfold small64; decide)).mono ?_
  rintro e w8 ⟨A6, c6, rfl, hN6, -, -, hb8⟩
  have hl6 : (overL (nd0 4 0 0) (overL (nd0 4 0 0) F []) []).length = n1 + 2 := by rw [over_len, HL4.out]; rfl
  rw [hl6]
  have HN1 := Lib.hid (HN1.out.below hb8)
  have HN2 := Lib.hid (HN2.out.below hb8)
  have HN3 := Lib.hid (HN3.out.below hb8)
  have HN4 := Lib.hid (HN4.out.below hb8)
  have HN5 := Lib.hid (HN5.out.below hb8)
  have HB8 := Lib.hid (HB7.out.trans (hb8.mono HB7.out.size))
  have HN6 := Lib.hid hN6.any
  have HL6 := Lib.hid hl6
  clear hN6 hb8 hl6
  go_wp2_with fail
  refine (CN.out A6 (n1 + 2) c6 _ w8 _ HL6.out (by have := HL1.out.2; omega) HN6.out N44.out).mono ?_
  rintro e w9 ⟨rfl, hb9⟩
  have HN1 := Lib.hid (HN1.out.below hb9)
  have HN2 := Lib.hid (HN2.out.below hb9)
  have HN3 := Lib.hid (HN3.out.below hb9)
  have HN4 := Lib.hid (HN4.out.below hb9)
  have HN5 := Lib.hid (HN5.out.below hb9)
  have HB9 := Lib.hid (HB8.out.trans (hb9.mono HB8.out.size))
  clear hb9
  go_wp2_with fail
  refine (CN.out A4 (n1 + 1) c4 _ w9 _ (HL4.out 19 0 0) (by have := HL1.out.2; omega) HN4.out N19.out).mono ?_
  rintro e w10 ⟨rfl, hb10⟩
  have HN1 := Lib.hid (HN1.out.below hb10)
  have HN2 := Lib.hid (HN2.out.below hb10)
  have HN3 := Lib.hid (HN3.out.below hb10)
  have HN5 := Lib.hid (HN5.out.below hb10)
  have HB10 := Lib.hid (HB9.out.trans (hb10.mono HB9.out.size))
  clear hb10
  go_wp2_with fail
  refine (CN.out A5 (n1 + 2) c5 _ w10 _ HL5.out (by have := HL1.out.2; omega) HN5.out N17.out).mono ?_
  rintro e w11 ⟨rfl, hb11⟩
  have HN1 := Lib.hid (HN1.out.below hb11)
  have HN2 := Lib.hid (HN2.out.below hb11)
  have HN3 := Lib.hid (HN3.out.below hb11)
  have HB11 := Lib.hid (HB10.out.trans (hb11.mono HB10.out.size))
  clear hb11
  go_wp2_with fail
  refine (CN.out A1 n1 c1 F w11 _ HL1.out.1 (by have := HL1.out.2; omega) HN1.out NF.out).mono ?_
  rintro e w12 ⟨rfl, hb12⟩
  have HN1 := Lib.hid (HN1.out.below hb12)
  have HN2 := Lib.hid (HN2.out.below hb12)
  have HN3 := Lib.hid (HN3.out.below hb12)
  have HB12 := Lib.hid (HB11.out.trans (hb12.mono HB11.out.size))
  clear hb12
  go_wp2_with fail
  refine (CN.out A1 n1 c1 F w12 _ HL1.out.1 (by have := HL1.out.2; omega) HN1.out NF.out).mono ?_
  rintro e w13 ⟨rfl, hb13⟩
  have HN1 := Lib.hid (HN1.out.below hb13)
  have HN2 := Lib.hid (HN2.out.below hb13)
  have HN3 := Lib.hid (HN3.out.below hb13)
  have HB13 := Lib.hid (HB12.out.trans (hb13.mono HB12.out.size))
  clear hb13
  have y1 : ¬ 9223372036854775807 < 2 + TF.size := by have := HTZ.out; omega
  have y2 : ¬ 9223372036854775807 < 2 + TF.size + 1 := by have := HTZ.out; omega
  have hbw : b = 0 ∨ b = 1 := by have := HB1'.out; omega
  have key : ∃ T4, Lex.bytes (textL (overL (nd0 4 0 0) F [])) = T4 ∧ ((T4 = { data := #[33, 40] } ++ TF ++ { data := #[41] } ∧ ((N : Int) == 2 + (v : Int)) = true) ∨ (((N : Int) == 2 + (v : Int)) = false ∧ (T4.toList == ({ data := #[33, 40] } ++ TF ++ { data := #[41] } : ByteArray).toList) = false)) := by
    refine ⟨_, HT4.out, ?_⟩
    have hN := HNN.out
    rcases hbw with rfl | rfl
    · rw [if_neg (by decide)]
      refine Or.inr ⟨beq_eq_false_iff_ne.2 (by omega), toList_ne ?_⟩
      rw [ByteArray.size_append, ByteArray.size_append, ByteArray.size_append]
      show ¬ 1 + TF.size = 2 + TF.size + 1
      omega
    · rw [if_pos rfl]
      exact Or.inl ⟨rfl, by rw [beq_iff_eq]; omega⟩
  obtain ⟨T4, hT4, hT4w⟩ := key
  have HT4 := Lib.hid hT4
  have HW4 := Lib.hid hT4w
  clear hbw hT4 hT4w
  go_wp2_with fail
  refine (CN.out A1 n1 c1 F w13 _ HL1.out.1 (by have := HL1.out.2; omega) HN1.out NF.out).mono ?_
  rintro e w14 ⟨rfl, hb14⟩
  have HN1 := Lib.hid (HN1.out.below hb14)
  have HN2 := Lib.hid (HN2.out.below hb14)
  have HN3 := Lib.hid (HN3.out.below hb14)
  have HB14 := Lib.hid (HB13.out.trans (hb14.mono HB13.out.size))
  clear hb14
  go_wp2_with fail
  refine (CT.out A3 (n1 + 1) c3 _ w14 _ (HL4.out 4 0 0) (by have := HL1.out.2; omega) HN3.out HB14.out HT4.out).mono ?_
  rintro e w15 ⟨rfl, hb15⟩
  have HN1 := Lib.hid (HN1.out.below hb15)
  have HN2 := Lib.hid (HN2.out.below hb15)
  have HB15 := Lib.hid (HB14.out.trans (hb15.mono HB14.out.size))
  clear hb15
  go_wp2_with fail
  refine (CT.out A1 n1 c1 F w15 _ HL1.out.1 (by have := HL1.out.2; omega) HN1.out HB15.out HTF.out).mono ?_
  rintro e w16 ⟨rfl, hb16⟩
  have HN1 := Lib.hid (HN1.out.below hb16)
  have HN2 := Lib.hid (HN2.out.below hb16)
  have HB16 := Lib.hid (HB15.out.trans (hb16.mono HB15.out.size))
  clear hb16
  rcases HW4.out with ⟨rfl, hE⟩ | ⟨hE, hE2⟩
  all_goals go_wp2_with fail
  all_goals
    rw [← HHK.out]
    refine (refOver (nd0 K 0 0) none 0 A1 A2 n1 n2 c1 c2 F G Any w16 HL1.out.1 HL2.out.1 (by have := HL1.out.2; omega) (by have := HL2.out.2; omega) (nd0_ok K 0 0 w16 (by have := HKK.out; unfold small64; omega) (by unfold small64; decide) (by unfold small64; decide)) HN1.out HN2.out (movable_may HRO.out.1.1 (by have := HRO.out.2; omega))).mono ?_
    rintro e w17 ⟨A7, c7, rfl, hN7, -, -, hb17⟩
    rw [HLB.out]
    have HN1 := Lib.hid (HN1.out.below hb17)
    have HN2 := Lib.hid (HN2.out.below hb17)
    have HN7 := Lib.hid hN7.any
    have HB17 := Lib.hid (HB16.out.trans (hb17.mono HB16.out.size))
    clear hN7 hb17
    have ix0 : ∀ W, (Instr.index 34 (.agg #[.string { data := #[32, 38, 32] }, .string { data := #[32, 124, 32] }, .string { data := #[32, 45, 62, 32] }]) (.int .i64 0)).run Tryd.prog W = .ok (.string { data := #[32, 38, 32] }) W := fun W => by kernel_rfl
    have ix1 : ∀ W, (Instr.index 34 (.agg #[.string { data := #[32, 38, 32] }, .string { data := #[32, 124, 32] }, .string { data := #[32, 45, 62, 32] }]) (.int .i64 1)).run Tryd.prog W = .ok (.string { data := #[32, 124, 32] }) W := fun W => by kernel_rfl
    have ix2 : ∀ W, (Instr.index 34 (.agg #[.string { data := #[32, 38, 32] }, .string { data := #[32, 124, 32] }, .string { data := #[32, 45, 62, 32] }]) (.int .i64 2)).run Tryd.prog W = .ok (.string { data := #[32, 45, 62, 32] }) W := fun W => by kernel_rfl
    have hsgw : ∃ SG : ByteArray, SG.size ≤ 4 ∧ Hid (Lex.bytes (textL (overL (nd0 K 0 0) F G)) = wrapS TF x ++ SG ++ wrapS TG y) ∧ ((how % 3 = 0 ∧ SG = { data := #[32, 38, 32] }) ∨ (how % 3 = 1 ∧ SG = { data := #[32, 124, 32] }) ∨ (how % 3 = 2 ∧ SG = { data := #[32, 45, 62, 32] })) := by
      have hK := HHK.out
      rcases HKK.out with ⟨e1, e2⟩ | ⟨e1, e2⟩ | ⟨e1, e2⟩
      · exact ⟨Lex.bytes sg, by rw [e2]; decide, HTBo.out, Or.inl ⟨by omega, by rw [e2]; rfl⟩⟩
      · exact ⟨Lex.bytes sg, by rw [e2]; decide, HTBo.out, Or.inr (Or.inl ⟨by omega, by rw [e2]; rfl⟩)⟩
      · exact ⟨Lex.bytes sg, by rw [e2]; decide, HTBo.out, Or.inr (Or.inr ⟨by omega, by rw [e2]; rfl⟩)⟩
    obtain ⟨SG, hSGz, HTB2, hSGw⟩ := hsgw
    have hm3 : ∃ r : Int, how % 3 = r ∧ ∀ W, (Instr.index 34 (.agg #[.string { data := #[32, 38, 32] }, .string { data := #[32, 124, 32] }, .string { data := #[32, 45, 62, 32] }]) (.int .i64 r)).run Tryd.prog W = .ok (.string SG) W := by
      rcases hSGw with ⟨e1, e2⟩ | ⟨e1, e2⟩ | ⟨e1, e2⟩
      · exact ⟨0, e1, fun W => by rw [e2]; exact ix0 W⟩
      · exact ⟨1, e1, fun W => by rw [e2]; exact ix1 W⟩
      · exact ⟨2, e1, fun W => by rw [e2]; exact ix2 W⟩
    obtain ⟨r, hr3, ixr⟩ := hm3
    have HX3 := Lib.hid hr3
    clear ix0 ix1 ix2 hSGw
    go_wp2_with fail
    try rw [hr3]
    clear hr3
    go_loopw [96] (fun i wr => ∃ j : Nat, j ≤ x + 2 * y ∧ i = .int .i64 (j : Int) ∧ Hid (Below w17.heap.size w17 wr)) (fun i _ => 4 - (intOf i).toNat)
    case atStart => exact ⟨0, Nat.zero_le _, rfl, Below.refl _ _⟩
    case round =>
      obtain ⟨j, hj, rfl, HB⟩ := hrel
      obtain ⟨hx1, hy1⟩ := HXY.out
      have hjw : j = 0 ∨ j = 1 ∨ j = 2 ∨ j = 3 := by omega
      rcases hjw with rfl | rfl | rfl | rfl
      · by_cases hst : 0 = x + 2 * y
        · have e1 : x = 0 := by omega
          have e2 : y = 0 := by omega
          rw [e1, e2] at HTB2
          have NB1 := NB.out
          rw [e1, e2] at NB1
          have NBV := Lib.hid (show (nestL (overL (nd0 K 0 0) F G) : Int) = max ((v : Int)) ((u : Int)) by rw [NB1]; omega)
          clear e1 e2 NB1 hst hj hx1 hy1
          go_wp2_with fail
          refine (CT.out A7 (n1 + n2 + 1) c7 _ wr _ HLB.out (by have := HL1.out.2; have := HL2.out.2; omega) (HN7.out.below HB.out) (HB17.out.trans (HB.out.mono HB17.out.size)) HTB2.out).mono ?_
          rintro e w18 ⟨rfl, hb18⟩
          have HBa := Lib.hid (HB.out.trans (hb18.mono HB.out.size))
          clear hb18
          go_wp2_with fail
          refine (CT.out A1 n1 c1 F w18 _ HL1.out.1 (by have := HL1.out.2; omega) (HN1.out.below HBa.out) (HB17.out.trans (HBa.out.mono HB17.out.size)) HTF.out).mono ?_
          rintro e w19 ⟨rfl, hb19⟩
          have HBb := Lib.hid (HBa.out.trans (hb19.mono HBa.out.size))
          clear hb19
          have q1 : ¬ 9223372036854775807 < (wrapS TF 0).size + SG.size := by have := HTZ.out; have := wrapS_size TF 0; omega
          have q2 : ¬ 9223372036854775807 < (wrapS TF 0).size + SG.size + (wrapS TG 0).size := by have := HTZ.out; have := HGZ.out; have := wrapS_size TF 0; have := wrapS_size TG 0; omega
          go_wp2_with fail
          refine (lawWrap TF 0 w19 (by decide) (by have := HTZ.out; omega)).mono ?_
          rintro e w20 ⟨rfl, rfl⟩
          go_wp2_with fail
          refine (CT.out A2 n2 c2 G w19 _ HL2.out.1 (by have := HL2.out.2; omega) (HN2.out.below HBb.out) (HB17.out.trans (HBb.out.mono HB17.out.size)) HTG.out).mono ?_
          rintro e w21 ⟨rfl, hb21⟩
          have HBc := Lib.hid (HBb.out.trans (hb21.mono HBb.out.size))
          clear hb21
          go_wp2_with fail
          refine (lawWrap TG 0 w21 (by decide) (by have := HGZ.out; omega)).mono ?_
          rintro e w22 ⟨rfl, rfl⟩
          go_wp2_with fail
          refine (CN.out A7 (n1 + n2 + 1) c7 _ w21 _ HLB.out (by have := HL1.out.2; have := HL2.out.2; omega) (HN7.out.below HBc.out) NBV.out).mono ?_
          rintro e w23 ⟨rfl, hb23⟩
          have HBd := Lib.hid (HBc.out.trans (hb23.mono HBc.out.size))
          clear hb23
          go_wp2_with fail
          refine (CN.out A1 n1 c1 F w23 _ HL1.out.1 (by have := HL1.out.2; omega) (HN1.out.below HBd.out) NF.out).mono ?_
          rintro e w24 ⟨rfl, hb24⟩
          have HBe := Lib.hid (HBd.out.trans (hb24.mono HBd.out.size))
          clear hb24
          go_wp2_with fail
          refine (CN.out A2 n2 c2 G w24 _ HL2.out.1 (by have := HL2.out.2; omega) (HN2.out.below HBe.out) NG.out).mono ?_
          rintro e w25 ⟨rfl, hb25⟩
          have HBf := Lib.hid (HBe.out.trans (hb25.mono HBe.out.size))
          clear hb25
          go_wp2_with fail
          refine (HAW.out _ (HB17.out.trans (HBf.out.mono HB17.out.size))).mono ?_
          rintro e w26 ⟨rfl, hb26⟩
          go_wp2_with fail
          go_ret
          exact ⟨rfl, (HB17.out.trans (HBf.out.mono HB17.out.size)).trans (hb26.mono (HB17.out.trans (HBf.out.mono HB17.out.size)).size)⟩
        · clear hx1 hy1
          go_wp2_with fail
          refine (CT.out A7 (n1 + n2 + 1) c7 _ wr _ HLB.out (by have := HL1.out.2; have := HL2.out.2; omega) (HN7.out.below HB.out) (HB17.out.trans (HB.out.mono HB17.out.size)) HTB2.out).mono ?_
          rintro e w18 ⟨rfl, hb18⟩
          have HBa := Lib.hid (HB.out.trans (hb18.mono HB.out.size))
          clear hb18
          go_wp2_with fail
          refine (CT.out A1 n1 c1 F w18 _ HL1.out.1 (by have := HL1.out.2; omega) (HN1.out.below HBa.out) (HB17.out.trans (HBa.out.mono HB17.out.size)) HTF.out).mono ?_
          rintro e w19 ⟨rfl, hb19⟩
          have HBb := Lib.hid (HBa.out.trans (hb19.mono HBa.out.size))
          clear hb19
          have q1 : ¬ 9223372036854775807 < (wrapS TF 0).size + SG.size := by have := HTZ.out; have := wrapS_size TF 0; omega
          have q2 : ¬ 9223372036854775807 < (wrapS TF 0).size + SG.size + (wrapS TG 0).size := by have := HTZ.out; have := HGZ.out; have := wrapS_size TF 0; have := wrapS_size TG 0; omega
          go_wp2_with fail
          refine (lawWrap TF 0 w19 (by decide) (by have := HTZ.out; omega)).mono ?_
          rintro e w20 ⟨rfl, rfl⟩
          go_wp2_with fail
          refine (CT.out A2 n2 c2 G w19 _ HL2.out.1 (by have := HL2.out.2; omega) (HN2.out.below HBb.out) (HB17.out.trans (HBb.out.mono HB17.out.size)) HTG.out).mono ?_
          rintro e w21 ⟨rfl, hb21⟩
          have HBc := Lib.hid (HBb.out.trans (hb21.mono HBb.out.size))
          clear hb21
          go_wp2_with fail
          refine (lawWrap TG 0 w21 (by decide) (by have := HGZ.out; omega)).mono ?_
          rintro e w22 ⟨rfl, rfl⟩
          go_wp2_with fail
          all_goals first
            | (
              refine (CN.out A7 (n1 + n2 + 1) c7 _ w21 _ HLB.out (by have := HL1.out.2; have := HL2.out.2; omega) (HN7.out.below HBc.out) NB.out).mono ?_
              rintro e w23 ⟨rfl, hb23⟩
              have HBd := Lib.hid (HBc.out.trans (hb23.mono HBc.out.size))
              clear hb23
              go_wp2_with fail
              refine (CN.out A1 n1 c1 F w23 _ HL1.out.1 (by have := HL1.out.2; omega) (HN1.out.below HBd.out) NF.out).mono ?_
              rintro e w24 ⟨rfl, hb24⟩
              have HBe := Lib.hid (HBd.out.trans (hb24.mono HBd.out.size))
              clear hb24
              go_wp2_with fail
              refine (CN.out A2 n2 c2 G w24 _ HL2.out.1 (by have := HL2.out.2; omega) (HN2.out.below HBe.out) NG.out).mono ?_
              rintro e w25 ⟨rfl, hb25⟩
              have HBf := Lib.hid (HBe.out.trans (hb25.mono HBe.out.size))
              clear hb25
              go_wp2_with fail
              all_goals first
                | (
                  refine (HAW.out _ (HB17.out.trans (HBf.out.mono HB17.out.size))).mono ?_
                  rintro e w26 ⟨rfl, hb26⟩
                  go_wp2_with fail
                  go_ret
                  exact ⟨rfl, (HB17.out.trans (HBf.out.mono HB17.out.size)).trans (hb26.mono (HB17.out.trans (HBf.out.mono HB17.out.size)).size)⟩)
                | (
                  go_roundw
                  case rel => exact ⟨1, by omega, rfl, HBf.out⟩
                  case measure => simp [intOf]))
            | (
              go_roundw
              case rel => exact ⟨1, by omega, rfl, HBc.out⟩
              case measure => simp [intOf])
      · by_cases hst : 1 = x + 2 * y
        · have e1 : x = 1 := by omega
          have e2 : y = 0 := by omega
          rw [e1, e2] at HTB2
          have NB1 := NB.out
          rw [e1, e2] at NB1
          have NBV := Lib.hid (show (nestL (overL (nd0 K 0 0) F G) : Int) = max ((v : Int) + 1) ((u : Int)) by rw [NB1]; omega)
          clear e1 e2 NB1 hst hj hx1 hy1
          go_wp2_with fail
          refine (CT.out A7 (n1 + n2 + 1) c7 _ wr _ HLB.out (by have := HL1.out.2; have := HL2.out.2; omega) (HN7.out.below HB.out) (HB17.out.trans (HB.out.mono HB17.out.size)) HTB2.out).mono ?_
          rintro e w18 ⟨rfl, hb18⟩
          have HBa := Lib.hid (HB.out.trans (hb18.mono HB.out.size))
          clear hb18
          go_wp2_with fail
          refine (CT.out A1 n1 c1 F w18 _ HL1.out.1 (by have := HL1.out.2; omega) (HN1.out.below HBa.out) (HB17.out.trans (HBa.out.mono HB17.out.size)) HTF.out).mono ?_
          rintro e w19 ⟨rfl, hb19⟩
          have HBb := Lib.hid (HBa.out.trans (hb19.mono HBa.out.size))
          clear hb19
          have q1 : ¬ 9223372036854775807 < (wrapS TF 1).size + SG.size := by have := HTZ.out; have := wrapS_size TF 1; omega
          have q2 : ¬ 9223372036854775807 < (wrapS TF 1).size + SG.size + (wrapS TG 0).size := by have := HTZ.out; have := HGZ.out; have := wrapS_size TF 1; have := wrapS_size TG 0; omega
          go_wp2_with fail
          refine (lawWrap TF 1 w19 (by decide) (by have := HTZ.out; omega)).mono ?_
          rintro e w20 ⟨rfl, rfl⟩
          go_wp2_with fail
          refine (CT.out A2 n2 c2 G w19 _ HL2.out.1 (by have := HL2.out.2; omega) (HN2.out.below HBb.out) (HB17.out.trans (HBb.out.mono HB17.out.size)) HTG.out).mono ?_
          rintro e w21 ⟨rfl, hb21⟩
          have HBc := Lib.hid (HBb.out.trans (hb21.mono HBb.out.size))
          clear hb21
          go_wp2_with fail
          refine (lawWrap TG 0 w21 (by decide) (by have := HGZ.out; omega)).mono ?_
          rintro e w22 ⟨rfl, rfl⟩
          go_wp2_with fail
          refine (CN.out A7 (n1 + n2 + 1) c7 _ w21 _ HLB.out (by have := HL1.out.2; have := HL2.out.2; omega) (HN7.out.below HBc.out) NBV.out).mono ?_
          rintro e w23 ⟨rfl, hb23⟩
          have HBd := Lib.hid (HBc.out.trans (hb23.mono HBc.out.size))
          clear hb23
          go_wp2_with fail
          refine (CN.out A1 n1 c1 F w23 _ HL1.out.1 (by have := HL1.out.2; omega) (HN1.out.below HBd.out) NF.out).mono ?_
          rintro e w24 ⟨rfl, hb24⟩
          have HBe := Lib.hid (HBd.out.trans (hb24.mono HBd.out.size))
          clear hb24
          go_wp2_with fail
          refine (CN.out A2 n2 c2 G w24 _ HL2.out.1 (by have := HL2.out.2; omega) (HN2.out.below HBe.out) NG.out).mono ?_
          rintro e w25 ⟨rfl, hb25⟩
          have HBf := Lib.hid (HBe.out.trans (hb25.mono HBe.out.size))
          clear hb25
          go_wp2_with fail
          refine (HAW.out _ (HB17.out.trans (HBf.out.mono HB17.out.size))).mono ?_
          rintro e w26 ⟨rfl, hb26⟩
          go_wp2_with fail
          go_ret
          exact ⟨rfl, (HB17.out.trans (HBf.out.mono HB17.out.size)).trans (hb26.mono (HB17.out.trans (HBf.out.mono HB17.out.size)).size)⟩
        · clear hx1 hy1
          go_wp2_with fail
          refine (CT.out A7 (n1 + n2 + 1) c7 _ wr _ HLB.out (by have := HL1.out.2; have := HL2.out.2; omega) (HN7.out.below HB.out) (HB17.out.trans (HB.out.mono HB17.out.size)) HTB2.out).mono ?_
          rintro e w18 ⟨rfl, hb18⟩
          have HBa := Lib.hid (HB.out.trans (hb18.mono HB.out.size))
          clear hb18
          go_wp2_with fail
          refine (CT.out A1 n1 c1 F w18 _ HL1.out.1 (by have := HL1.out.2; omega) (HN1.out.below HBa.out) (HB17.out.trans (HBa.out.mono HB17.out.size)) HTF.out).mono ?_
          rintro e w19 ⟨rfl, hb19⟩
          have HBb := Lib.hid (HBa.out.trans (hb19.mono HBa.out.size))
          clear hb19
          have q1 : ¬ 9223372036854775807 < (wrapS TF 1).size + SG.size := by have := HTZ.out; have := wrapS_size TF 1; omega
          have q2 : ¬ 9223372036854775807 < (wrapS TF 1).size + SG.size + (wrapS TG 0).size := by have := HTZ.out; have := HGZ.out; have := wrapS_size TF 1; have := wrapS_size TG 0; omega
          go_wp2_with fail
          refine (lawWrap TF 1 w19 (by decide) (by have := HTZ.out; omega)).mono ?_
          rintro e w20 ⟨rfl, rfl⟩
          go_wp2_with fail
          refine (CT.out A2 n2 c2 G w19 _ HL2.out.1 (by have := HL2.out.2; omega) (HN2.out.below HBb.out) (HB17.out.trans (HBb.out.mono HB17.out.size)) HTG.out).mono ?_
          rintro e w21 ⟨rfl, hb21⟩
          have HBc := Lib.hid (HBb.out.trans (hb21.mono HBb.out.size))
          clear hb21
          go_wp2_with fail
          refine (lawWrap TG 0 w21 (by decide) (by have := HGZ.out; omega)).mono ?_
          rintro e w22 ⟨rfl, rfl⟩
          go_wp2_with fail
          all_goals first
            | (
              refine (CN.out A7 (n1 + n2 + 1) c7 _ w21 _ HLB.out (by have := HL1.out.2; have := HL2.out.2; omega) (HN7.out.below HBc.out) NB.out).mono ?_
              rintro e w23 ⟨rfl, hb23⟩
              have HBd := Lib.hid (HBc.out.trans (hb23.mono HBc.out.size))
              clear hb23
              go_wp2_with fail
              refine (CN.out A1 n1 c1 F w23 _ HL1.out.1 (by have := HL1.out.2; omega) (HN1.out.below HBd.out) NF.out).mono ?_
              rintro e w24 ⟨rfl, hb24⟩
              have HBe := Lib.hid (HBd.out.trans (hb24.mono HBd.out.size))
              clear hb24
              go_wp2_with fail
              refine (CN.out A2 n2 c2 G w24 _ HL2.out.1 (by have := HL2.out.2; omega) (HN2.out.below HBe.out) NG.out).mono ?_
              rintro e w25 ⟨rfl, hb25⟩
              have HBf := Lib.hid (HBe.out.trans (hb25.mono HBe.out.size))
              clear hb25
              go_wp2_with fail
              all_goals first
                | (
                  refine (HAW.out _ (HB17.out.trans (HBf.out.mono HB17.out.size))).mono ?_
                  rintro e w26 ⟨rfl, hb26⟩
                  go_wp2_with fail
                  go_ret
                  exact ⟨rfl, (HB17.out.trans (HBf.out.mono HB17.out.size)).trans (hb26.mono (HB17.out.trans (HBf.out.mono HB17.out.size)).size)⟩)
                | (
                  go_roundw
                  case rel => exact ⟨2, by omega, rfl, HBf.out⟩
                  case measure => simp [intOf]))
            | (
              go_roundw
              case rel => exact ⟨2, by omega, rfl, HBc.out⟩
              case measure => simp [intOf])
      · by_cases hst : 2 = x + 2 * y
        · have e1 : x = 0 := by omega
          have e2 : y = 1 := by omega
          rw [e1, e2] at HTB2
          have NB1 := NB.out
          rw [e1, e2] at NB1
          have NBV := Lib.hid (show (nestL (overL (nd0 K 0 0) F G) : Int) = max ((v : Int)) ((u : Int) + 1) by rw [NB1]; omega)
          clear e1 e2 NB1 hst hj hx1 hy1
          go_wp2_with fail
          refine (CT.out A7 (n1 + n2 + 1) c7 _ wr _ HLB.out (by have := HL1.out.2; have := HL2.out.2; omega) (HN7.out.below HB.out) (HB17.out.trans (HB.out.mono HB17.out.size)) HTB2.out).mono ?_
          rintro e w18 ⟨rfl, hb18⟩
          have HBa := Lib.hid (HB.out.trans (hb18.mono HB.out.size))
          clear hb18
          go_wp2_with fail
          refine (CT.out A1 n1 c1 F w18 _ HL1.out.1 (by have := HL1.out.2; omega) (HN1.out.below HBa.out) (HB17.out.trans (HBa.out.mono HB17.out.size)) HTF.out).mono ?_
          rintro e w19 ⟨rfl, hb19⟩
          have HBb := Lib.hid (HBa.out.trans (hb19.mono HBa.out.size))
          clear hb19
          have q1 : ¬ 9223372036854775807 < (wrapS TF 0).size + SG.size := by have := HTZ.out; have := wrapS_size TF 0; omega
          have q2 : ¬ 9223372036854775807 < (wrapS TF 0).size + SG.size + (wrapS TG 1).size := by have := HTZ.out; have := HGZ.out; have := wrapS_size TF 0; have := wrapS_size TG 1; omega
          go_wp2_with fail
          refine (lawWrap TF 0 w19 (by decide) (by have := HTZ.out; omega)).mono ?_
          rintro e w20 ⟨rfl, rfl⟩
          go_wp2_with fail
          refine (CT.out A2 n2 c2 G w19 _ HL2.out.1 (by have := HL2.out.2; omega) (HN2.out.below HBb.out) (HB17.out.trans (HBb.out.mono HB17.out.size)) HTG.out).mono ?_
          rintro e w21 ⟨rfl, hb21⟩
          have HBc := Lib.hid (HBb.out.trans (hb21.mono HBb.out.size))
          clear hb21
          go_wp2_with fail
          refine (lawWrap TG 1 w21 (by decide) (by have := HGZ.out; omega)).mono ?_
          rintro e w22 ⟨rfl, rfl⟩
          go_wp2_with fail
          refine (CN.out A7 (n1 + n2 + 1) c7 _ w21 _ HLB.out (by have := HL1.out.2; have := HL2.out.2; omega) (HN7.out.below HBc.out) NBV.out).mono ?_
          rintro e w23 ⟨rfl, hb23⟩
          have HBd := Lib.hid (HBc.out.trans (hb23.mono HBc.out.size))
          clear hb23
          go_wp2_with fail
          refine (CN.out A1 n1 c1 F w23 _ HL1.out.1 (by have := HL1.out.2; omega) (HN1.out.below HBd.out) NF.out).mono ?_
          rintro e w24 ⟨rfl, hb24⟩
          have HBe := Lib.hid (HBd.out.trans (hb24.mono HBd.out.size))
          clear hb24
          go_wp2_with fail
          refine (CN.out A2 n2 c2 G w24 _ HL2.out.1 (by have := HL2.out.2; omega) (HN2.out.below HBe.out) NG.out).mono ?_
          rintro e w25 ⟨rfl, hb25⟩
          have HBf := Lib.hid (HBe.out.trans (hb25.mono HBe.out.size))
          clear hb25
          go_wp2_with fail
          refine (HAW.out _ (HB17.out.trans (HBf.out.mono HB17.out.size))).mono ?_
          rintro e w26 ⟨rfl, hb26⟩
          go_wp2_with fail
          go_ret
          exact ⟨rfl, (HB17.out.trans (HBf.out.mono HB17.out.size)).trans (hb26.mono (HB17.out.trans (HBf.out.mono HB17.out.size)).size)⟩
        · clear hx1 hy1
          go_wp2_with fail
          refine (CT.out A7 (n1 + n2 + 1) c7 _ wr _ HLB.out (by have := HL1.out.2; have := HL2.out.2; omega) (HN7.out.below HB.out) (HB17.out.trans (HB.out.mono HB17.out.size)) HTB2.out).mono ?_
          rintro e w18 ⟨rfl, hb18⟩
          have HBa := Lib.hid (HB.out.trans (hb18.mono HB.out.size))
          clear hb18
          go_wp2_with fail
          refine (CT.out A1 n1 c1 F w18 _ HL1.out.1 (by have := HL1.out.2; omega) (HN1.out.below HBa.out) (HB17.out.trans (HBa.out.mono HB17.out.size)) HTF.out).mono ?_
          rintro e w19 ⟨rfl, hb19⟩
          have HBb := Lib.hid (HBa.out.trans (hb19.mono HBa.out.size))
          clear hb19
          have q1 : ¬ 9223372036854775807 < (wrapS TF 0).size + SG.size := by have := HTZ.out; have := wrapS_size TF 0; omega
          have q2 : ¬ 9223372036854775807 < (wrapS TF 0).size + SG.size + (wrapS TG 1).size := by have := HTZ.out; have := HGZ.out; have := wrapS_size TF 0; have := wrapS_size TG 1; omega
          go_wp2_with fail
          refine (lawWrap TF 0 w19 (by decide) (by have := HTZ.out; omega)).mono ?_
          rintro e w20 ⟨rfl, rfl⟩
          go_wp2_with fail
          refine (CT.out A2 n2 c2 G w19 _ HL2.out.1 (by have := HL2.out.2; omega) (HN2.out.below HBb.out) (HB17.out.trans (HBb.out.mono HB17.out.size)) HTG.out).mono ?_
          rintro e w21 ⟨rfl, hb21⟩
          have HBc := Lib.hid (HBb.out.trans (hb21.mono HBb.out.size))
          clear hb21
          go_wp2_with fail
          refine (lawWrap TG 1 w21 (by decide) (by have := HGZ.out; omega)).mono ?_
          rintro e w22 ⟨rfl, rfl⟩
          go_wp2_with fail
          all_goals first
            | (
              refine (CN.out A7 (n1 + n2 + 1) c7 _ w21 _ HLB.out (by have := HL1.out.2; have := HL2.out.2; omega) (HN7.out.below HBc.out) NB.out).mono ?_
              rintro e w23 ⟨rfl, hb23⟩
              have HBd := Lib.hid (HBc.out.trans (hb23.mono HBc.out.size))
              clear hb23
              go_wp2_with fail
              refine (CN.out A1 n1 c1 F w23 _ HL1.out.1 (by have := HL1.out.2; omega) (HN1.out.below HBd.out) NF.out).mono ?_
              rintro e w24 ⟨rfl, hb24⟩
              have HBe := Lib.hid (HBd.out.trans (hb24.mono HBd.out.size))
              clear hb24
              go_wp2_with fail
              refine (CN.out A2 n2 c2 G w24 _ HL2.out.1 (by have := HL2.out.2; omega) (HN2.out.below HBe.out) NG.out).mono ?_
              rintro e w25 ⟨rfl, hb25⟩
              have HBf := Lib.hid (HBe.out.trans (hb25.mono HBe.out.size))
              clear hb25
              go_wp2_with fail
              all_goals first
                | (
                  refine (HAW.out _ (HB17.out.trans (HBf.out.mono HB17.out.size))).mono ?_
                  rintro e w26 ⟨rfl, hb26⟩
                  go_wp2_with fail
                  go_ret
                  exact ⟨rfl, (HB17.out.trans (HBf.out.mono HB17.out.size)).trans (hb26.mono (HB17.out.trans (HBf.out.mono HB17.out.size)).size)⟩)
                | (
                  go_roundw
                  case rel => exact ⟨3, by omega, rfl, HBf.out⟩
                  case measure => simp [intOf]))
            | (
              go_roundw
              case rel => exact ⟨3, by omega, rfl, HBc.out⟩
              case measure => simp [intOf])
      · by_cases hst : 3 = x + 2 * y
        · have e1 : x = 1 := by omega
          have e2 : y = 1 := by omega
          rw [e1, e2] at HTB2
          have NB1 := NB.out
          rw [e1, e2] at NB1
          have NBV := Lib.hid (show (nestL (overL (nd0 K 0 0) F G) : Int) = max ((v : Int) + 1) ((u : Int) + 1) by rw [NB1]; omega)
          clear e1 e2 NB1 hst hj hx1 hy1
          go_wp2_with fail
          refine (CT.out A7 (n1 + n2 + 1) c7 _ wr _ HLB.out (by have := HL1.out.2; have := HL2.out.2; omega) (HN7.out.below HB.out) (HB17.out.trans (HB.out.mono HB17.out.size)) HTB2.out).mono ?_
          rintro e w18 ⟨rfl, hb18⟩
          have HBa := Lib.hid (HB.out.trans (hb18.mono HB.out.size))
          clear hb18
          go_wp2_with fail
          refine (CT.out A1 n1 c1 F w18 _ HL1.out.1 (by have := HL1.out.2; omega) (HN1.out.below HBa.out) (HB17.out.trans (HBa.out.mono HB17.out.size)) HTF.out).mono ?_
          rintro e w19 ⟨rfl, hb19⟩
          have HBb := Lib.hid (HBa.out.trans (hb19.mono HBa.out.size))
          clear hb19
          have q1 : ¬ 9223372036854775807 < (wrapS TF 1).size + SG.size := by have := HTZ.out; have := wrapS_size TF 1; omega
          have q2 : ¬ 9223372036854775807 < (wrapS TF 1).size + SG.size + (wrapS TG 1).size := by have := HTZ.out; have := HGZ.out; have := wrapS_size TF 1; have := wrapS_size TG 1; omega
          go_wp2_with fail
          refine (lawWrap TF 1 w19 (by decide) (by have := HTZ.out; omega)).mono ?_
          rintro e w20 ⟨rfl, rfl⟩
          go_wp2_with fail
          refine (CT.out A2 n2 c2 G w19 _ HL2.out.1 (by have := HL2.out.2; omega) (HN2.out.below HBb.out) (HB17.out.trans (HBb.out.mono HB17.out.size)) HTG.out).mono ?_
          rintro e w21 ⟨rfl, hb21⟩
          have HBc := Lib.hid (HBb.out.trans (hb21.mono HBb.out.size))
          clear hb21
          go_wp2_with fail
          refine (lawWrap TG 1 w21 (by decide) (by have := HGZ.out; omega)).mono ?_
          rintro e w22 ⟨rfl, rfl⟩
          go_wp2_with fail
          refine (CN.out A7 (n1 + n2 + 1) c7 _ w21 _ HLB.out (by have := HL1.out.2; have := HL2.out.2; omega) (HN7.out.below HBc.out) NBV.out).mono ?_
          rintro e w23 ⟨rfl, hb23⟩
          have HBd := Lib.hid (HBc.out.trans (hb23.mono HBc.out.size))
          clear hb23
          go_wp2_with fail
          refine (CN.out A1 n1 c1 F w23 _ HL1.out.1 (by have := HL1.out.2; omega) (HN1.out.below HBd.out) NF.out).mono ?_
          rintro e w24 ⟨rfl, hb24⟩
          have HBe := Lib.hid (HBd.out.trans (hb24.mono HBd.out.size))
          clear hb24
          go_wp2_with fail
          refine (CN.out A2 n2 c2 G w24 _ HL2.out.1 (by have := HL2.out.2; omega) (HN2.out.below HBe.out) NG.out).mono ?_
          rintro e w25 ⟨rfl, hb25⟩
          have HBf := Lib.hid (HBe.out.trans (hb25.mono HBe.out.size))
          clear hb25
          go_wp2_with fail
          refine (HAW.out _ (HB17.out.trans (HBf.out.mono HB17.out.size))).mono ?_
          rintro e w26 ⟨rfl, hb26⟩
          go_wp2_with fail
          go_ret
          exact ⟨rfl, (HB17.out.trans (HBf.out.mono HB17.out.size)).trans (hb26.mono (HB17.out.trans (HBf.out.mono HB17.out.size)).size)⟩
        · exact absurd (show 3 = x + 2 * y by omega) hst
end Go.Proofs.YthcbgneoonekkaaDoor.Show
