/-
  The walk of the law ParseMade. By an AI agent.
-/
import Derived.Test.YtnoghlhggeffnaaDoorGParseMade13
import Derived.Test.YtnoghlhggeffnaaDoorGParseMade16
import Derived.Test.YtnoghlhggeffnaaDoorGParseMade18
import Derived.Test.YtnoghlhggeffnaaDoorGParseMade29
import Derived.Test.YtnoghlhggeffnaaDoorGParseMade30
import Derived.Test.YtnoghlhggeffnaaDoorGParseMade43
namespace Go.Proofs.YtnoghlhggeffnaaDoor.Show
open Go.RowKit Go.Proofs.YtnoghlhggeffnaaDoor.Tree Go.Proofs.YtnoghlhggeffnaaDoor.Itoa Go.Proofs.YtnoghlhggeffnaaDoor.Ints

/-- What the law asks of one side, before it is walked. -/
theorem made_ways {g : Bool} {f l : List Nd} {p c : Nat} (hf : mayL f = true) (hk : regKind (lastKind f) = g) (hl : f.length ≤ 100) (hx : Parse.parseS g (textL f) = (l, p, c)) :
    (decide (((textL f).length : Int) ≤ 2000) = false ∧ 2000 < (textL f).length ∧ (c = 0 → mayL l = true ∧ regKind (lastKind l) = g ∧ l.length ≤ 2001)) ∨
    ((textL f).length ≤ 2000 ∧ decide ((nestL f : Int) ≤ 40) = false ∧ (c = 0 → mayL l = true ∧ regKind (lastKind l) = g ∧ l.length ≤ 2001)) ∨
    ((textL f).length ≤ 2000 ∧ nestL f ≤ 40 ∧ c = 0 ∧ p = 0 ∧ l = f) := by
  have hm : c = 0 → mayL l = true ∧ regKind (lastKind l) = g ∧ l.length ≤ 2001 := fun h => by subst h; exact parse_may hx
  by_cases h1 : (textL f).length ≤ 2000
  · by_cases h2 : nestL f ≤ 40
    · have hb := text_back hf hk (by omega) h1 h2
      rw [hx] at hb
      injection hb with b1 b2
      injection b2 with b2 b3
      exact Or.inr (Or.inr ⟨h1, h2, b3, b2, b1⟩)
    · exact Or.inr (Or.inl ⟨h1, decide_eq_false (by omega), hm⟩)
  · exact Or.inl ⟨decide_eq_false (by omega), by omega, hm⟩
theorem bool_true {f : FuncId} {args : Array Value} {W : World} {b : Bool} (hb : b = true) (h : Calls Tryd.prog f args W fun e w' => e = .returned (.bool b) ∧ Below W.heap.size W w') : Calls Tryd.prog f args W fun e w' => e = .returned (.bool true) ∧ Below W.heap.size W w' := by
  subst hb
  exact h
theorem same_true {f : FuncId} {args : Array Value} {W : World} {a b : List Nd} (he : a = b) (h : Calls Tryd.prog f args W fun e w' => e = .returned (.bool (decide (a = b))) ∧ Below W.heap.size W w') : Calls Tryd.prog f args W fun e w' => e = .returned (.bool true) ∧ Below W.heap.size W w' :=
  bool_true (decide_eq_true he) h
set_option maxHeartbeats 40000000 in
set_option maxRecDepth 100000 in
theorem lawMade6 (A : Option Addr) (n c : Nat) (zs : List Int) (w : World) (h : Rd .u16 w A n zs) (hn : n ≤ maxLen) (hT : Tab10 w) :
    Calls Tryd.prog 3 #[.slice A n c] w fun e w' => e = .returned (.bool true) ∧ Below w.heap.size w w' := by
  have HMK := Lib.hid (lawMake A n c zs false w h hn)
  have HRG := Lib.hid (fun W (hb : Below w.heap.size w W) => lawReg A n c zs false W (h.below hb) hn)
  have hz := fun z hz => wf_u16 (h.all z hz)
  have hmo := make_ok false zs hz
  have hro := reg_ok false zs hz
  obtain ⟨F, hF⟩ : ∃ F, makeL false zs = F := ⟨_, rfl⟩
  obtain ⟨G, hG⟩ : ∃ G, regMk false zs = G := ⟨_, rfl⟩
  rw [hF] at HMK hmo
  rw [hG] at HRG hro
  have HMO := Lib.hid hmo
  have HRO := Lib.hid hro
  have HTX := Lib.hid (fun (A' : Option Addr) (m c' : Nat) (l : List Nd) (W : World) (hl : l.length = m) (hm : m ≤ 100) (hN : Nodes Any W A' l) (hb : Below w.heap.size w W) => refText A' m c' l W hl (by omega) hN (hT.later hb))
  have HPF := Lib.hid (fun (t : ByteArray) (W : World) (ht : t.size ≤ maxLen) => Parse.landParse t W ht)
  have HPG := Lib.hid (fun (t : ByteArray) (W : World) (ht : t.size ≤ maxLen) => Parse.landRegex t W ht)
  have HAW := Lib.hid (fun W => Parse.awake W)
  obtain ⟨⟨l3, p3, c3⟩, hx3⟩ : ∃ x, Parse.parseS false (textL F) = x := ⟨_, rfl⟩
  obtain ⟨⟨l4, p4, c4⟩, hx4⟩ : ∃ x, Parse.parseS true (textL G) = x := ⟨_, rfl⟩
  have HW3 := Lib.hid (made_ways hmo.1.1 hmo.1.2.1 hmo.2 hx3)
  have HW4 := Lib.hid (made_ways hro.1.1 hro.1.2.1 hro.2 hx4)
  have HX3 := Lib.hid hx3
  have HX4 := Lib.hid hx4
  clear h hn hz hT hmo hro hF hG hx3 hx4
  go_enter Tryd.func3, Tryd.ntmps3
  go_wp2_with fail
  refine HMK.out.mono ?_
  rintro e w1 ⟨A1, c1, rfl, hN1, -, -, hb1⟩
  have HN1 := Lib.hid hN1
  have HB1 := Lib.hid hb1
  clear hN1 hb1
  go_wp2_with fail
  refine (HRG.out _ HB1.out).mono ?_
  rintro e w2 ⟨A2, c2, rfl, hN2, -, -, hb2⟩
  have HN1' := Lib.hid (HN1.out.below hb2)
  have HN2 := Lib.hid hN2
  have HB2 := Lib.hid (HB1.out.trans (hb2.mono HB1.out.size))
  clear hN2 hb2
  obtain ⟨n1, hn1⟩ : ∃ n, F.length = n := ⟨_, rfl⟩
  obtain ⟨n2, hn2⟩ : ∃ n, G.length = n := ⟨_, rfl⟩
  have HL1 := Lib.hid (And.intro hn1 (show n1 ≤ 100 by rw [← hn1]; exact HMO.out.2))
  have HL2 := Lib.hid (And.intro hn2 (show n2 ≤ 100 by rw [← hn2]; exact HRO.out.2))
  rw [hn1, hn2]
  clear hn1 hn2
  go_wp2_with fail
  refine (HTX.out A1 n1 c1 F w2 HL1.out.1 HL1.out.2 HN1'.out HB2.out).mono ?_
  rintro e w3 ⟨rfl, hb3⟩
  have HB3 := Lib.hid (HB2.out.trans (hb3.mono HB2.out.size))
  have HN1 := Lib.hid (HN1'.out.below hb3)
  have HN2' := Lib.hid (HN2.out.below hb3)
  clear hb3
  obtain ⟨S1, hS1⟩ : ∃ S, Lex.bytes (textL F) = S := ⟨_, rfl⟩
  have hz1 : S1.size = (textL F).length := by rw [← hS1, bytes_len]
  have hq1 : S1.data.toList = textL F := by rw [← hS1]; rfl
  rw [hS1]
  clear hS1
  go_wp2_with fail
  refine (HTX.out A2 n2 c2 G w3 HL2.out.1 HL2.out.2 HN2'.out HB3.out).mono ?_
  rintro e w4 ⟨rfl, hb4⟩
  have HB4 := Lib.hid (HB3.out.trans (hb4.mono HB3.out.size))
  have HN1' := Lib.hid (HN1.out.below hb4)
  have HN2 := Lib.hid (HN2'.out.below hb4)
  clear hb4
  obtain ⟨S2, hS2⟩ : ∃ S, Lex.bytes (textL G) = S := ⟨_, rfl⟩
  have hz2 : S2.size = (textL G).length := by rw [← hS2, bytes_len]
  have hq2 : S2.data.toList = textL G := by rw [← hS2]; rfl
  rw [hS2]
  clear hS2
  have HZ1 := Lib.hid (show S1.size ≤ maxLen by have : maxLen = 9223372036854775807 := rfl; have := textL_len HMO.out.1.1; have := HMO.out.2; omega)
  have HZ2 := Lib.hid (show S2.size ≤ maxLen by have : maxLen = 9223372036854775807 := rfl; have := textL_len HRO.out.1.1; have := HRO.out.2; omega)
  have HP3 := Lib.hid (HPF.out S1 w4 HZ1.out)
  rw [hq1, HX3.out] at HP3
  have HP4 := Lib.hid (fun W => HPG.out S2 W HZ2.out)
  rw [hq2, HX4.out] at HP4
  have HS1 := Lib.hid hz1
  have HS2 := Lib.hid hz2
  clear hz1 hz2 hq1 hq2
  go_wp2_with fail
  refine HP3.out.mono ?_
  rintro e w5 ⟨A3, n3, c3', rfl, hn3, hN3, -, -, hb5⟩
  have HB5 := Lib.hid (HB4.out.trans (hb5.mono HB4.out.size))
  have HN1 := Lib.hid (HN1'.out.below hb5)
  have HN2' := Lib.hid (HN2.out.below hb5)
  have HN3 := Lib.hid hN3
  have HL3 := Lib.hid (show l3.length = n3 from hn3)
  clear hN3 hn3 hb5
  go_wp2_with fail
  refine (HP4.out _).mono ?_
  rintro e w6 ⟨A4, n4, c4', rfl, hn4, hN4, -, -, hb6⟩
  have HB6 := Lib.hid (HB5.out.trans (hb6.mono HB5.out.size))
  have HBx := HB6
  have HNF := Lib.hid (fun W (hb : Below w6.heap.size w6 W) => refNest A1 n1 c1 F W HL1.out.1 (by have := HL1.out.2; omega) ((HN1.out.below hb6).below hb))
  have HNG := Lib.hid (fun W (hb : Below w6.heap.size w6 W) => refNest A2 n2 c2 G W HL2.out.1 (by have := HL2.out.2; omega) ((HN2'.out.below hb6).below hb))
  have HSF := Lib.hid (fun W (hb : Below w6.heap.size w6 W) (he : l3 = F) => same_true he <| refSameNodes A3 A1 n3 c3' n1 c1 l3 F W HL3.out HL1.out.1 (by rw [← HL3.out, he, HL1.out.1]; have := HL1.out.2; omega) ((HN3.out.below hb6).below hb) ((HN1.out.below hb6).below hb))
  have HL4 := Lib.hid (show l4.length = n4 from hn4)
  have HSG := Lib.hid (fun W (hb : Below w6.heap.size w6 W) (he : l4 = G) => same_true he <| refSameNodes A4 A2 n4 c4' n2 c2 l4 G W HL4.out HL2.out.1 (by rw [← HL4.out, he, HL2.out.1]; have := HL2.out.2; omega) (Nodes.below hN4 hb) ((HN2'.out.below hb6).below hb))
  have HFM := Lib.hid (fun W (hb : Below w6.heap.size w6 W) (he : formL l3 = true ∧ l3.length ≤ 2001) => bool_true he.1 <| refForm A3 n3 c3' l3 W HL3.out (by rw [← HL3.out]; have := he.2; omega) ((HN3.out.below hb6).below hb))
  have HGM := Lib.hid (fun W (hb : Below w6.heap.size w6 W) (he : regL l4 = true ∧ l4.length ≤ 2001) => bool_true he.1 <| refReg A4 n4 c4' l4 W HL4.out (by rw [← HL4.out]; have := he.2; omega) (Nodes.below hN4 hb))
  clear hb6 hN4 hn4
  have key3 : ∃ fin3 : (c3 = 0 ∧ formL l3 = true ∧ l3.length ≤ 2001) ∨ ((c3 : Int) != 0) = true, (decide ((S1.size : Int) ≤ 2000) = false ∨ ((S1.size : Int) ≤ 2000 ∧ decide ((nestL F : Int) ≤ 40) = false) ∨ ((S1.size : Int) ≤ 2000 ∧ (nestL F : Int) ≤ 40 ∧ c3 = 0 ∧ p3 = 0 ∧ l3 = F)) := by
    have hfm : ∀ l : List Nd, mayL l = true ∧ regKind (lastKind l) = false ∧ l.length ≤ 2001 → formL l = true ∧ l.length ≤ 2001 := fun l ⟨a, b, c⟩ => by
      have hr := last_range a
      have := form_reg hr
      rw [b] at this
      exact ⟨by unfold formL; rw [a, this]; rfl, c⟩
    have hfin : (c3 = 0 → mayL l3 = true ∧ regKind (lastKind l3) = false ∧ l3.length ≤ 2001) → (c3 = 0 ∧ formL l3 = true ∧ l3.length ≤ 2001) ∨ ((c3 : Int) != 0) = true := fun h => by
      by_cases hc : c3 = 0
      · exact Or.inl ⟨hc, hfm l3 (h hc)⟩
      · exact Or.inr (by simp; omega)
    rcases HW3.out with ⟨z1, -, hh⟩ | ⟨z1, z2, hh⟩ | ⟨z1, z2, rfl, rfl, rfl⟩
    · exact ⟨hfin hh, Or.inl (by rw [HS1.out]; exact z1)⟩
    · exact ⟨hfin hh, Or.inr (Or.inl ⟨by rw [HS1.out]; omega, z2⟩)⟩
    · exact ⟨Or.inl ⟨rfl, hfm _ ⟨HMO.out.1.1, HMO.out.1.2.1, by have := HMO.out.2; omega⟩⟩, Or.inr (Or.inr ⟨by rw [HS1.out]; omega, by omega, rfl, rfl, rfl⟩)⟩
  have key4 : ∃ fin4 : (c4 = 0 ∧ regL l4 = true ∧ l4.length ≤ 2001) ∨ ((c4 : Int) != 0) = true, (decide ((S2.size : Int) ≤ 2000) = false ∨ ((S2.size : Int) ≤ 2000 ∧ decide ((nestL G : Int) ≤ 40) = false) ∨ ((S2.size : Int) ≤ 2000 ∧ (nestL G : Int) ≤ 40 ∧ c4 = 0 ∧ p4 = 0 ∧ l4 = G)) := by
    have hfm : ∀ l : List Nd, mayL l = true ∧ regKind (lastKind l) = true ∧ l.length ≤ 2001 → regL l = true ∧ l.length ≤ 2001 := fun l ⟨a, b, c⟩ => ⟨by rw [reg_last a, b], c⟩
    have hfin : (c4 = 0 → mayL l4 = true ∧ regKind (lastKind l4) = true ∧ l4.length ≤ 2001) → (c4 = 0 ∧ regL l4 = true ∧ l4.length ≤ 2001) ∨ ((c4 : Int) != 0) = true := fun h => by
      by_cases hc : c4 = 0
      · exact Or.inl ⟨hc, hfm l4 (h hc)⟩
      · exact Or.inr (by simp; omega)
    rcases HW4.out with ⟨z1, -, hh⟩ | ⟨z1, z2, hh⟩ | ⟨z1, z2, rfl, rfl, rfl⟩
    · exact ⟨hfin hh, Or.inl (by rw [HS2.out]; exact z1)⟩
    · exact ⟨hfin hh, Or.inr (Or.inl ⟨by rw [HS2.out]; omega, z2⟩)⟩
    · exact ⟨Or.inl ⟨rfl, hfm _ ⟨HRO.out.1.1, HRO.out.1.2.1, by have := HRO.out.2; omega⟩⟩, Or.inr (Or.inr ⟨by rw [HS2.out]; omega, by omega, rfl, rfl, rfl⟩)⟩
  obtain ⟨fin3, k3⟩ := key3
  obtain ⟨fin4, k4⟩ := key4
  have HB66 := Lib.hid (Below.refl w6.heap.size w6)
  have HBY := HB66
  clear HBx
  rcases k3 with z3 | ⟨z3, z3'⟩ | ⟨z3, z3', y3, yp3, yl3⟩
  · rcases fin3 with ⟨y3, zf3⟩ | zc3
    · subst y3
      have ZF3 := Lib.hid zf3
      clear zf3
      rcases k4 with z4 | ⟨z4, z4'⟩ | ⟨z4, z4', y4, yp4, yl4⟩
      · rcases fin4 with ⟨y4, zf4⟩ | zc4
        · subst y4
          have ZF4 := Lib.hid zf4
          clear zf4
          go_wp2_with (first
            | (go_at_call 10; (with_reducible refine (HNF.out _ HBY.out).mono ?_); rintro e w' ⟨rfl, hb⟩; have HBY := Lib.hid (HBY.out.trans (hb.mono HBY.out.size)); clear hb)
            | (go_at_call 10; (with_reducible refine (HNG.out _ HBY.out).mono ?_); rintro e w' ⟨rfl, hb⟩; have HBY := Lib.hid (HBY.out.trans (hb.mono HBY.out.size)); clear hb)
            | (go_at_call 11; (with_reducible refine (HSF.out _ HBY.out HY3.out).mono ?_); rintro e w' ⟨rfl, hb⟩; have HBY := Lib.hid (HBY.out.trans (hb.mono HBY.out.size)); clear hb)
            | (go_at_call 11; (with_reducible refine (HSG.out _ HBY.out HY4.out).mono ?_); rintro e w' ⟨rfl, hb⟩; have HBY := Lib.hid (HBY.out.trans (hb.mono HBY.out.size)); clear hb)
            | (go_at_call 12; (with_reducible refine (HFM.out _ HBY.out ZF3.out).mono ?_); rintro e w' ⟨rfl, hb⟩; have HBY := Lib.hid (HBY.out.trans (hb.mono HBY.out.size)); clear hb)
            | (go_at_call 13; (with_reducible refine (HGM.out _ HBY.out ZF4.out).mono ?_); rintro e w' ⟨rfl, hb⟩; have HBY := Lib.hid (HBY.out.trans (hb.mono HBY.out.size)); clear hb)
            | (go_at_call 14; (with_reducible refine (HAW.out _).mono ?_); rintro e w' ⟨rfl, hb⟩; have HBY := Lib.hid (HBY.out.trans (hb.mono HBY.out.size)); clear hb))
          go_ret
          exact ⟨rfl, HB6.out.trans (HBY.out.mono HB6.out.size)⟩
        · have zd4 := zc4
          go_wp2_with (first
            | (go_at_call 10; (with_reducible refine (HNF.out _ HBY.out).mono ?_); rintro e w' ⟨rfl, hb⟩; have HBY := Lib.hid (HBY.out.trans (hb.mono HBY.out.size)); clear hb)
            | (go_at_call 10; (with_reducible refine (HNG.out _ HBY.out).mono ?_); rintro e w' ⟨rfl, hb⟩; have HBY := Lib.hid (HBY.out.trans (hb.mono HBY.out.size)); clear hb)
            | (go_at_call 11; (with_reducible refine (HSF.out _ HBY.out HY3.out).mono ?_); rintro e w' ⟨rfl, hb⟩; have HBY := Lib.hid (HBY.out.trans (hb.mono HBY.out.size)); clear hb)
            | (go_at_call 11; (with_reducible refine (HSG.out _ HBY.out HY4.out).mono ?_); rintro e w' ⟨rfl, hb⟩; have HBY := Lib.hid (HBY.out.trans (hb.mono HBY.out.size)); clear hb)
            | (go_at_call 12; (with_reducible refine (HFM.out _ HBY.out ZF3.out).mono ?_); rintro e w' ⟨rfl, hb⟩; have HBY := Lib.hid (HBY.out.trans (hb.mono HBY.out.size)); clear hb)
            | (go_at_call 13; (with_reducible refine (HGM.out _ HBY.out ZF4.out).mono ?_); rintro e w' ⟨rfl, hb⟩; have HBY := Lib.hid (HBY.out.trans (hb.mono HBY.out.size)); clear hb)
            | (go_at_call 14; (with_reducible refine (HAW.out _).mono ?_); rintro e w' ⟨rfl, hb⟩; have HBY := Lib.hid (HBY.out.trans (hb.mono HBY.out.size)); clear hb))
          go_ret
          exact ⟨rfl, HB6.out.trans (HBY.out.mono HB6.out.size)⟩
      · rcases fin4 with ⟨y4, zf4⟩ | zc4
        · subst y4
          have ZF4 := Lib.hid zf4
          clear zf4
          go_wp2_with (first
            | (go_at_call 10; (with_reducible refine (HNF.out _ HBY.out).mono ?_); rintro e w' ⟨rfl, hb⟩; have HBY := Lib.hid (HBY.out.trans (hb.mono HBY.out.size)); clear hb)
            | (go_at_call 10; (with_reducible refine (HNG.out _ HBY.out).mono ?_); rintro e w' ⟨rfl, hb⟩; have HBY := Lib.hid (HBY.out.trans (hb.mono HBY.out.size)); clear hb)
            | (go_at_call 11; (with_reducible refine (HSF.out _ HBY.out HY3.out).mono ?_); rintro e w' ⟨rfl, hb⟩; have HBY := Lib.hid (HBY.out.trans (hb.mono HBY.out.size)); clear hb)
            | (go_at_call 11; (with_reducible refine (HSG.out _ HBY.out HY4.out).mono ?_); rintro e w' ⟨rfl, hb⟩; have HBY := Lib.hid (HBY.out.trans (hb.mono HBY.out.size)); clear hb)
            | (go_at_call 12; (with_reducible refine (HFM.out _ HBY.out ZF3.out).mono ?_); rintro e w' ⟨rfl, hb⟩; have HBY := Lib.hid (HBY.out.trans (hb.mono HBY.out.size)); clear hb)
            | (go_at_call 13; (with_reducible refine (HGM.out _ HBY.out ZF4.out).mono ?_); rintro e w' ⟨rfl, hb⟩; have HBY := Lib.hid (HBY.out.trans (hb.mono HBY.out.size)); clear hb)
            | (go_at_call 14; (with_reducible refine (HAW.out _).mono ?_); rintro e w' ⟨rfl, hb⟩; have HBY := Lib.hid (HBY.out.trans (hb.mono HBY.out.size)); clear hb))
          go_ret
          exact ⟨rfl, HB6.out.trans (HBY.out.mono HB6.out.size)⟩
        · have zd4 := zc4
          go_wp2_with (first
            | (go_at_call 10; (with_reducible refine (HNF.out _ HBY.out).mono ?_); rintro e w' ⟨rfl, hb⟩; have HBY := Lib.hid (HBY.out.trans (hb.mono HBY.out.size)); clear hb)
            | (go_at_call 10; (with_reducible refine (HNG.out _ HBY.out).mono ?_); rintro e w' ⟨rfl, hb⟩; have HBY := Lib.hid (HBY.out.trans (hb.mono HBY.out.size)); clear hb)
            | (go_at_call 11; (with_reducible refine (HSF.out _ HBY.out HY3.out).mono ?_); rintro e w' ⟨rfl, hb⟩; have HBY := Lib.hid (HBY.out.trans (hb.mono HBY.out.size)); clear hb)
            | (go_at_call 11; (with_reducible refine (HSG.out _ HBY.out HY4.out).mono ?_); rintro e w' ⟨rfl, hb⟩; have HBY := Lib.hid (HBY.out.trans (hb.mono HBY.out.size)); clear hb)
            | (go_at_call 12; (with_reducible refine (HFM.out _ HBY.out ZF3.out).mono ?_); rintro e w' ⟨rfl, hb⟩; have HBY := Lib.hid (HBY.out.trans (hb.mono HBY.out.size)); clear hb)
            | (go_at_call 13; (with_reducible refine (HGM.out _ HBY.out ZF4.out).mono ?_); rintro e w' ⟨rfl, hb⟩; have HBY := Lib.hid (HBY.out.trans (hb.mono HBY.out.size)); clear hb)
            | (go_at_call 14; (with_reducible refine (HAW.out _).mono ?_); rintro e w' ⟨rfl, hb⟩; have HBY := Lib.hid (HBY.out.trans (hb.mono HBY.out.size)); clear hb))
          go_ret
          exact ⟨rfl, HB6.out.trans (HBY.out.mono HB6.out.size)⟩
      · rcases fin4 with ⟨-, zf4⟩ | zc4
        · have ZF4 := Lib.hid zf4
          have HY4 := Lib.hid yl4
          clear zf4 yl4
          subst y4
          subst yp4
          go_wp2_with (first
            | (go_at_call 10; (with_reducible refine (HNF.out _ HBY.out).mono ?_); rintro e w' ⟨rfl, hb⟩; have HBY := Lib.hid (HBY.out.trans (hb.mono HBY.out.size)); clear hb)
            | (go_at_call 10; (with_reducible refine (HNG.out _ HBY.out).mono ?_); rintro e w' ⟨rfl, hb⟩; have HBY := Lib.hid (HBY.out.trans (hb.mono HBY.out.size)); clear hb)
            | (go_at_call 11; (with_reducible refine (HSF.out _ HBY.out HY3.out).mono ?_); rintro e w' ⟨rfl, hb⟩; have HBY := Lib.hid (HBY.out.trans (hb.mono HBY.out.size)); clear hb)
            | (go_at_call 11; (with_reducible refine (HSG.out _ HBY.out HY4.out).mono ?_); rintro e w' ⟨rfl, hb⟩; have HBY := Lib.hid (HBY.out.trans (hb.mono HBY.out.size)); clear hb)
            | (go_at_call 12; (with_reducible refine (HFM.out _ HBY.out ZF3.out).mono ?_); rintro e w' ⟨rfl, hb⟩; have HBY := Lib.hid (HBY.out.trans (hb.mono HBY.out.size)); clear hb)
            | (go_at_call 13; (with_reducible refine (HGM.out _ HBY.out ZF4.out).mono ?_); rintro e w' ⟨rfl, hb⟩; have HBY := Lib.hid (HBY.out.trans (hb.mono HBY.out.size)); clear hb)
            | (go_at_call 14; (with_reducible refine (HAW.out _).mono ?_); rintro e w' ⟨rfl, hb⟩; have HBY := Lib.hid (HBY.out.trans (hb.mono HBY.out.size)); clear hb))
          go_ret
          exact ⟨rfl, HB6.out.trans (HBY.out.mono HB6.out.size)⟩
        · subst y4
          exact absurd zc4 (by decide)
    · have zd3 := zc3
      rcases k4 with z4 | ⟨z4, z4'⟩ | ⟨z4, z4', y4, yp4, yl4⟩
      · rcases fin4 with ⟨y4, zf4⟩ | zc4
        · subst y4
          have ZF4 := Lib.hid zf4
          clear zf4
          go_wp2_with (first
            | (go_at_call 10; (with_reducible refine (HNF.out _ HBY.out).mono ?_); rintro e w' ⟨rfl, hb⟩; have HBY := Lib.hid (HBY.out.trans (hb.mono HBY.out.size)); clear hb)
            | (go_at_call 10; (with_reducible refine (HNG.out _ HBY.out).mono ?_); rintro e w' ⟨rfl, hb⟩; have HBY := Lib.hid (HBY.out.trans (hb.mono HBY.out.size)); clear hb)
            | (go_at_call 11; (with_reducible refine (HSF.out _ HBY.out HY3.out).mono ?_); rintro e w' ⟨rfl, hb⟩; have HBY := Lib.hid (HBY.out.trans (hb.mono HBY.out.size)); clear hb)
            | (go_at_call 11; (with_reducible refine (HSG.out _ HBY.out HY4.out).mono ?_); rintro e w' ⟨rfl, hb⟩; have HBY := Lib.hid (HBY.out.trans (hb.mono HBY.out.size)); clear hb)
            | (go_at_call 12; (with_reducible refine (HFM.out _ HBY.out ZF3.out).mono ?_); rintro e w' ⟨rfl, hb⟩; have HBY := Lib.hid (HBY.out.trans (hb.mono HBY.out.size)); clear hb)
            | (go_at_call 13; (with_reducible refine (HGM.out _ HBY.out ZF4.out).mono ?_); rintro e w' ⟨rfl, hb⟩; have HBY := Lib.hid (HBY.out.trans (hb.mono HBY.out.size)); clear hb)
            | (go_at_call 14; (with_reducible refine (HAW.out _).mono ?_); rintro e w' ⟨rfl, hb⟩; have HBY := Lib.hid (HBY.out.trans (hb.mono HBY.out.size)); clear hb))
          go_ret
          exact ⟨rfl, HB6.out.trans (HBY.out.mono HB6.out.size)⟩
        · have zd4 := zc4
          go_wp2_with (first
            | (go_at_call 10; (with_reducible refine (HNF.out _ HBY.out).mono ?_); rintro e w' ⟨rfl, hb⟩; have HBY := Lib.hid (HBY.out.trans (hb.mono HBY.out.size)); clear hb)
            | (go_at_call 10; (with_reducible refine (HNG.out _ HBY.out).mono ?_); rintro e w' ⟨rfl, hb⟩; have HBY := Lib.hid (HBY.out.trans (hb.mono HBY.out.size)); clear hb)
            | (go_at_call 11; (with_reducible refine (HSF.out _ HBY.out HY3.out).mono ?_); rintro e w' ⟨rfl, hb⟩; have HBY := Lib.hid (HBY.out.trans (hb.mono HBY.out.size)); clear hb)
            | (go_at_call 11; (with_reducible refine (HSG.out _ HBY.out HY4.out).mono ?_); rintro e w' ⟨rfl, hb⟩; have HBY := Lib.hid (HBY.out.trans (hb.mono HBY.out.size)); clear hb)
            | (go_at_call 12; (with_reducible refine (HFM.out _ HBY.out ZF3.out).mono ?_); rintro e w' ⟨rfl, hb⟩; have HBY := Lib.hid (HBY.out.trans (hb.mono HBY.out.size)); clear hb)
            | (go_at_call 13; (with_reducible refine (HGM.out _ HBY.out ZF4.out).mono ?_); rintro e w' ⟨rfl, hb⟩; have HBY := Lib.hid (HBY.out.trans (hb.mono HBY.out.size)); clear hb)
            | (go_at_call 14; (with_reducible refine (HAW.out _).mono ?_); rintro e w' ⟨rfl, hb⟩; have HBY := Lib.hid (HBY.out.trans (hb.mono HBY.out.size)); clear hb))
          go_ret
          exact ⟨rfl, HB6.out.trans (HBY.out.mono HB6.out.size)⟩
      · rcases fin4 with ⟨y4, zf4⟩ | zc4
        · subst y4
          have ZF4 := Lib.hid zf4
          clear zf4
          go_wp2_with (first
            | (go_at_call 10; (with_reducible refine (HNF.out _ HBY.out).mono ?_); rintro e w' ⟨rfl, hb⟩; have HBY := Lib.hid (HBY.out.trans (hb.mono HBY.out.size)); clear hb)
            | (go_at_call 10; (with_reducible refine (HNG.out _ HBY.out).mono ?_); rintro e w' ⟨rfl, hb⟩; have HBY := Lib.hid (HBY.out.trans (hb.mono HBY.out.size)); clear hb)
            | (go_at_call 11; (with_reducible refine (HSF.out _ HBY.out HY3.out).mono ?_); rintro e w' ⟨rfl, hb⟩; have HBY := Lib.hid (HBY.out.trans (hb.mono HBY.out.size)); clear hb)
            | (go_at_call 11; (with_reducible refine (HSG.out _ HBY.out HY4.out).mono ?_); rintro e w' ⟨rfl, hb⟩; have HBY := Lib.hid (HBY.out.trans (hb.mono HBY.out.size)); clear hb)
            | (go_at_call 12; (with_reducible refine (HFM.out _ HBY.out ZF3.out).mono ?_); rintro e w' ⟨rfl, hb⟩; have HBY := Lib.hid (HBY.out.trans (hb.mono HBY.out.size)); clear hb)
            | (go_at_call 13; (with_reducible refine (HGM.out _ HBY.out ZF4.out).mono ?_); rintro e w' ⟨rfl, hb⟩; have HBY := Lib.hid (HBY.out.trans (hb.mono HBY.out.size)); clear hb)
            | (go_at_call 14; (with_reducible refine (HAW.out _).mono ?_); rintro e w' ⟨rfl, hb⟩; have HBY := Lib.hid (HBY.out.trans (hb.mono HBY.out.size)); clear hb))
          go_ret
          exact ⟨rfl, HB6.out.trans (HBY.out.mono HB6.out.size)⟩
        · have zd4 := zc4
          go_wp2_with (first
            | (go_at_call 10; (with_reducible refine (HNF.out _ HBY.out).mono ?_); rintro e w' ⟨rfl, hb⟩; have HBY := Lib.hid (HBY.out.trans (hb.mono HBY.out.size)); clear hb)
            | (go_at_call 10; (with_reducible refine (HNG.out _ HBY.out).mono ?_); rintro e w' ⟨rfl, hb⟩; have HBY := Lib.hid (HBY.out.trans (hb.mono HBY.out.size)); clear hb)
            | (go_at_call 11; (with_reducible refine (HSF.out _ HBY.out HY3.out).mono ?_); rintro e w' ⟨rfl, hb⟩; have HBY := Lib.hid (HBY.out.trans (hb.mono HBY.out.size)); clear hb)
            | (go_at_call 11; (with_reducible refine (HSG.out _ HBY.out HY4.out).mono ?_); rintro e w' ⟨rfl, hb⟩; have HBY := Lib.hid (HBY.out.trans (hb.mono HBY.out.size)); clear hb)
            | (go_at_call 12; (with_reducible refine (HFM.out _ HBY.out ZF3.out).mono ?_); rintro e w' ⟨rfl, hb⟩; have HBY := Lib.hid (HBY.out.trans (hb.mono HBY.out.size)); clear hb)
            | (go_at_call 13; (with_reducible refine (HGM.out _ HBY.out ZF4.out).mono ?_); rintro e w' ⟨rfl, hb⟩; have HBY := Lib.hid (HBY.out.trans (hb.mono HBY.out.size)); clear hb)
            | (go_at_call 14; (with_reducible refine (HAW.out _).mono ?_); rintro e w' ⟨rfl, hb⟩; have HBY := Lib.hid (HBY.out.trans (hb.mono HBY.out.size)); clear hb))
          go_ret
          exact ⟨rfl, HB6.out.trans (HBY.out.mono HB6.out.size)⟩
      · rcases fin4 with ⟨-, zf4⟩ | zc4
        · have ZF4 := Lib.hid zf4
          have HY4 := Lib.hid yl4
          clear zf4 yl4
          subst y4
          subst yp4
          go_wp2_with (first
            | (go_at_call 10; (with_reducible refine (HNF.out _ HBY.out).mono ?_); rintro e w' ⟨rfl, hb⟩; have HBY := Lib.hid (HBY.out.trans (hb.mono HBY.out.size)); clear hb)
            | (go_at_call 10; (with_reducible refine (HNG.out _ HBY.out).mono ?_); rintro e w' ⟨rfl, hb⟩; have HBY := Lib.hid (HBY.out.trans (hb.mono HBY.out.size)); clear hb)
            | (go_at_call 11; (with_reducible refine (HSF.out _ HBY.out HY3.out).mono ?_); rintro e w' ⟨rfl, hb⟩; have HBY := Lib.hid (HBY.out.trans (hb.mono HBY.out.size)); clear hb)
            | (go_at_call 11; (with_reducible refine (HSG.out _ HBY.out HY4.out).mono ?_); rintro e w' ⟨rfl, hb⟩; have HBY := Lib.hid (HBY.out.trans (hb.mono HBY.out.size)); clear hb)
            | (go_at_call 12; (with_reducible refine (HFM.out _ HBY.out ZF3.out).mono ?_); rintro e w' ⟨rfl, hb⟩; have HBY := Lib.hid (HBY.out.trans (hb.mono HBY.out.size)); clear hb)
            | (go_at_call 13; (with_reducible refine (HGM.out _ HBY.out ZF4.out).mono ?_); rintro e w' ⟨rfl, hb⟩; have HBY := Lib.hid (HBY.out.trans (hb.mono HBY.out.size)); clear hb)
            | (go_at_call 14; (with_reducible refine (HAW.out _).mono ?_); rintro e w' ⟨rfl, hb⟩; have HBY := Lib.hid (HBY.out.trans (hb.mono HBY.out.size)); clear hb))
          go_ret
          exact ⟨rfl, HB6.out.trans (HBY.out.mono HB6.out.size)⟩
        · subst y4
          exact absurd zc4 (by decide)
  · rcases fin3 with ⟨y3, zf3⟩ | zc3
    · subst y3
      have ZF3 := Lib.hid zf3
      clear zf3
      rcases k4 with z4 | ⟨z4, z4'⟩ | ⟨z4, z4', y4, yp4, yl4⟩
      · rcases fin4 with ⟨y4, zf4⟩ | zc4
        · subst y4
          have ZF4 := Lib.hid zf4
          clear zf4
          go_wp2_with (first
            | (go_at_call 10; (with_reducible refine (HNF.out _ HBY.out).mono ?_); rintro e w' ⟨rfl, hb⟩; have HBY := Lib.hid (HBY.out.trans (hb.mono HBY.out.size)); clear hb)
            | (go_at_call 10; (with_reducible refine (HNG.out _ HBY.out).mono ?_); rintro e w' ⟨rfl, hb⟩; have HBY := Lib.hid (HBY.out.trans (hb.mono HBY.out.size)); clear hb)
            | (go_at_call 11; (with_reducible refine (HSF.out _ HBY.out HY3.out).mono ?_); rintro e w' ⟨rfl, hb⟩; have HBY := Lib.hid (HBY.out.trans (hb.mono HBY.out.size)); clear hb)
            | (go_at_call 11; (with_reducible refine (HSG.out _ HBY.out HY4.out).mono ?_); rintro e w' ⟨rfl, hb⟩; have HBY := Lib.hid (HBY.out.trans (hb.mono HBY.out.size)); clear hb)
            | (go_at_call 12; (with_reducible refine (HFM.out _ HBY.out ZF3.out).mono ?_); rintro e w' ⟨rfl, hb⟩; have HBY := Lib.hid (HBY.out.trans (hb.mono HBY.out.size)); clear hb)
            | (go_at_call 13; (with_reducible refine (HGM.out _ HBY.out ZF4.out).mono ?_); rintro e w' ⟨rfl, hb⟩; have HBY := Lib.hid (HBY.out.trans (hb.mono HBY.out.size)); clear hb)
            | (go_at_call 14; (with_reducible refine (HAW.out _).mono ?_); rintro e w' ⟨rfl, hb⟩; have HBY := Lib.hid (HBY.out.trans (hb.mono HBY.out.size)); clear hb))
          go_ret
          exact ⟨rfl, HB6.out.trans (HBY.out.mono HB6.out.size)⟩
        · have zd4 := zc4
          go_wp2_with (first
            | (go_at_call 10; (with_reducible refine (HNF.out _ HBY.out).mono ?_); rintro e w' ⟨rfl, hb⟩; have HBY := Lib.hid (HBY.out.trans (hb.mono HBY.out.size)); clear hb)
            | (go_at_call 10; (with_reducible refine (HNG.out _ HBY.out).mono ?_); rintro e w' ⟨rfl, hb⟩; have HBY := Lib.hid (HBY.out.trans (hb.mono HBY.out.size)); clear hb)
            | (go_at_call 11; (with_reducible refine (HSF.out _ HBY.out HY3.out).mono ?_); rintro e w' ⟨rfl, hb⟩; have HBY := Lib.hid (HBY.out.trans (hb.mono HBY.out.size)); clear hb)
            | (go_at_call 11; (with_reducible refine (HSG.out _ HBY.out HY4.out).mono ?_); rintro e w' ⟨rfl, hb⟩; have HBY := Lib.hid (HBY.out.trans (hb.mono HBY.out.size)); clear hb)
            | (go_at_call 12; (with_reducible refine (HFM.out _ HBY.out ZF3.out).mono ?_); rintro e w' ⟨rfl, hb⟩; have HBY := Lib.hid (HBY.out.trans (hb.mono HBY.out.size)); clear hb)
            | (go_at_call 13; (with_reducible refine (HGM.out _ HBY.out ZF4.out).mono ?_); rintro e w' ⟨rfl, hb⟩; have HBY := Lib.hid (HBY.out.trans (hb.mono HBY.out.size)); clear hb)
            | (go_at_call 14; (with_reducible refine (HAW.out _).mono ?_); rintro e w' ⟨rfl, hb⟩; have HBY := Lib.hid (HBY.out.trans (hb.mono HBY.out.size)); clear hb))
          go_ret
          exact ⟨rfl, HB6.out.trans (HBY.out.mono HB6.out.size)⟩
      · rcases fin4 with ⟨y4, zf4⟩ | zc4
        · subst y4
          have ZF4 := Lib.hid zf4
          clear zf4
          go_wp2_with (first
            | (go_at_call 10; (with_reducible refine (HNF.out _ HBY.out).mono ?_); rintro e w' ⟨rfl, hb⟩; have HBY := Lib.hid (HBY.out.trans (hb.mono HBY.out.size)); clear hb)
            | (go_at_call 10; (with_reducible refine (HNG.out _ HBY.out).mono ?_); rintro e w' ⟨rfl, hb⟩; have HBY := Lib.hid (HBY.out.trans (hb.mono HBY.out.size)); clear hb)
            | (go_at_call 11; (with_reducible refine (HSF.out _ HBY.out HY3.out).mono ?_); rintro e w' ⟨rfl, hb⟩; have HBY := Lib.hid (HBY.out.trans (hb.mono HBY.out.size)); clear hb)
            | (go_at_call 11; (with_reducible refine (HSG.out _ HBY.out HY4.out).mono ?_); rintro e w' ⟨rfl, hb⟩; have HBY := Lib.hid (HBY.out.trans (hb.mono HBY.out.size)); clear hb)
            | (go_at_call 12; (with_reducible refine (HFM.out _ HBY.out ZF3.out).mono ?_); rintro e w' ⟨rfl, hb⟩; have HBY := Lib.hid (HBY.out.trans (hb.mono HBY.out.size)); clear hb)
            | (go_at_call 13; (with_reducible refine (HGM.out _ HBY.out ZF4.out).mono ?_); rintro e w' ⟨rfl, hb⟩; have HBY := Lib.hid (HBY.out.trans (hb.mono HBY.out.size)); clear hb)
            | (go_at_call 14; (with_reducible refine (HAW.out _).mono ?_); rintro e w' ⟨rfl, hb⟩; have HBY := Lib.hid (HBY.out.trans (hb.mono HBY.out.size)); clear hb))
          go_ret
          exact ⟨rfl, HB6.out.trans (HBY.out.mono HB6.out.size)⟩
        · have zd4 := zc4
          go_wp2_with (first
            | (go_at_call 10; (with_reducible refine (HNF.out _ HBY.out).mono ?_); rintro e w' ⟨rfl, hb⟩; have HBY := Lib.hid (HBY.out.trans (hb.mono HBY.out.size)); clear hb)
            | (go_at_call 10; (with_reducible refine (HNG.out _ HBY.out).mono ?_); rintro e w' ⟨rfl, hb⟩; have HBY := Lib.hid (HBY.out.trans (hb.mono HBY.out.size)); clear hb)
            | (go_at_call 11; (with_reducible refine (HSF.out _ HBY.out HY3.out).mono ?_); rintro e w' ⟨rfl, hb⟩; have HBY := Lib.hid (HBY.out.trans (hb.mono HBY.out.size)); clear hb)
            | (go_at_call 11; (with_reducible refine (HSG.out _ HBY.out HY4.out).mono ?_); rintro e w' ⟨rfl, hb⟩; have HBY := Lib.hid (HBY.out.trans (hb.mono HBY.out.size)); clear hb)
            | (go_at_call 12; (with_reducible refine (HFM.out _ HBY.out ZF3.out).mono ?_); rintro e w' ⟨rfl, hb⟩; have HBY := Lib.hid (HBY.out.trans (hb.mono HBY.out.size)); clear hb)
            | (go_at_call 13; (with_reducible refine (HGM.out _ HBY.out ZF4.out).mono ?_); rintro e w' ⟨rfl, hb⟩; have HBY := Lib.hid (HBY.out.trans (hb.mono HBY.out.size)); clear hb)
            | (go_at_call 14; (with_reducible refine (HAW.out _).mono ?_); rintro e w' ⟨rfl, hb⟩; have HBY := Lib.hid (HBY.out.trans (hb.mono HBY.out.size)); clear hb))
          go_ret
          exact ⟨rfl, HB6.out.trans (HBY.out.mono HB6.out.size)⟩
      · rcases fin4 with ⟨-, zf4⟩ | zc4
        · have ZF4 := Lib.hid zf4
          have HY4 := Lib.hid yl4
          clear zf4 yl4
          subst y4
          subst yp4
          go_wp2_with (first
            | (go_at_call 10; (with_reducible refine (HNF.out _ HBY.out).mono ?_); rintro e w' ⟨rfl, hb⟩; have HBY := Lib.hid (HBY.out.trans (hb.mono HBY.out.size)); clear hb)
            | (go_at_call 10; (with_reducible refine (HNG.out _ HBY.out).mono ?_); rintro e w' ⟨rfl, hb⟩; have HBY := Lib.hid (HBY.out.trans (hb.mono HBY.out.size)); clear hb)
            | (go_at_call 11; (with_reducible refine (HSF.out _ HBY.out HY3.out).mono ?_); rintro e w' ⟨rfl, hb⟩; have HBY := Lib.hid (HBY.out.trans (hb.mono HBY.out.size)); clear hb)
            | (go_at_call 11; (with_reducible refine (HSG.out _ HBY.out HY4.out).mono ?_); rintro e w' ⟨rfl, hb⟩; have HBY := Lib.hid (HBY.out.trans (hb.mono HBY.out.size)); clear hb)
            | (go_at_call 12; (with_reducible refine (HFM.out _ HBY.out ZF3.out).mono ?_); rintro e w' ⟨rfl, hb⟩; have HBY := Lib.hid (HBY.out.trans (hb.mono HBY.out.size)); clear hb)
            | (go_at_call 13; (with_reducible refine (HGM.out _ HBY.out ZF4.out).mono ?_); rintro e w' ⟨rfl, hb⟩; have HBY := Lib.hid (HBY.out.trans (hb.mono HBY.out.size)); clear hb)
            | (go_at_call 14; (with_reducible refine (HAW.out _).mono ?_); rintro e w' ⟨rfl, hb⟩; have HBY := Lib.hid (HBY.out.trans (hb.mono HBY.out.size)); clear hb))
          go_ret
          exact ⟨rfl, HB6.out.trans (HBY.out.mono HB6.out.size)⟩
        · subst y4
          exact absurd zc4 (by decide)
    · have zd3 := zc3
      rcases k4 with z4 | ⟨z4, z4'⟩ | ⟨z4, z4', y4, yp4, yl4⟩
      · rcases fin4 with ⟨y4, zf4⟩ | zc4
        · subst y4
          have ZF4 := Lib.hid zf4
          clear zf4
          go_wp2_with (first
            | (go_at_call 10; (with_reducible refine (HNF.out _ HBY.out).mono ?_); rintro e w' ⟨rfl, hb⟩; have HBY := Lib.hid (HBY.out.trans (hb.mono HBY.out.size)); clear hb)
            | (go_at_call 10; (with_reducible refine (HNG.out _ HBY.out).mono ?_); rintro e w' ⟨rfl, hb⟩; have HBY := Lib.hid (HBY.out.trans (hb.mono HBY.out.size)); clear hb)
            | (go_at_call 11; (with_reducible refine (HSF.out _ HBY.out HY3.out).mono ?_); rintro e w' ⟨rfl, hb⟩; have HBY := Lib.hid (HBY.out.trans (hb.mono HBY.out.size)); clear hb)
            | (go_at_call 11; (with_reducible refine (HSG.out _ HBY.out HY4.out).mono ?_); rintro e w' ⟨rfl, hb⟩; have HBY := Lib.hid (HBY.out.trans (hb.mono HBY.out.size)); clear hb)
            | (go_at_call 12; (with_reducible refine (HFM.out _ HBY.out ZF3.out).mono ?_); rintro e w' ⟨rfl, hb⟩; have HBY := Lib.hid (HBY.out.trans (hb.mono HBY.out.size)); clear hb)
            | (go_at_call 13; (with_reducible refine (HGM.out _ HBY.out ZF4.out).mono ?_); rintro e w' ⟨rfl, hb⟩; have HBY := Lib.hid (HBY.out.trans (hb.mono HBY.out.size)); clear hb)
            | (go_at_call 14; (with_reducible refine (HAW.out _).mono ?_); rintro e w' ⟨rfl, hb⟩; have HBY := Lib.hid (HBY.out.trans (hb.mono HBY.out.size)); clear hb))
          go_ret
          exact ⟨rfl, HB6.out.trans (HBY.out.mono HB6.out.size)⟩
        · have zd4 := zc4
          go_wp2_with (first
            | (go_at_call 10; (with_reducible refine (HNF.out _ HBY.out).mono ?_); rintro e w' ⟨rfl, hb⟩; have HBY := Lib.hid (HBY.out.trans (hb.mono HBY.out.size)); clear hb)
            | (go_at_call 10; (with_reducible refine (HNG.out _ HBY.out).mono ?_); rintro e w' ⟨rfl, hb⟩; have HBY := Lib.hid (HBY.out.trans (hb.mono HBY.out.size)); clear hb)
            | (go_at_call 11; (with_reducible refine (HSF.out _ HBY.out HY3.out).mono ?_); rintro e w' ⟨rfl, hb⟩; have HBY := Lib.hid (HBY.out.trans (hb.mono HBY.out.size)); clear hb)
            | (go_at_call 11; (with_reducible refine (HSG.out _ HBY.out HY4.out).mono ?_); rintro e w' ⟨rfl, hb⟩; have HBY := Lib.hid (HBY.out.trans (hb.mono HBY.out.size)); clear hb)
            | (go_at_call 12; (with_reducible refine (HFM.out _ HBY.out ZF3.out).mono ?_); rintro e w' ⟨rfl, hb⟩; have HBY := Lib.hid (HBY.out.trans (hb.mono HBY.out.size)); clear hb)
            | (go_at_call 13; (with_reducible refine (HGM.out _ HBY.out ZF4.out).mono ?_); rintro e w' ⟨rfl, hb⟩; have HBY := Lib.hid (HBY.out.trans (hb.mono HBY.out.size)); clear hb)
            | (go_at_call 14; (with_reducible refine (HAW.out _).mono ?_); rintro e w' ⟨rfl, hb⟩; have HBY := Lib.hid (HBY.out.trans (hb.mono HBY.out.size)); clear hb))
          go_ret
          exact ⟨rfl, HB6.out.trans (HBY.out.mono HB6.out.size)⟩
      · rcases fin4 with ⟨y4, zf4⟩ | zc4
        · subst y4
          have ZF4 := Lib.hid zf4
          clear zf4
          go_wp2_with (first
            | (go_at_call 10; (with_reducible refine (HNF.out _ HBY.out).mono ?_); rintro e w' ⟨rfl, hb⟩; have HBY := Lib.hid (HBY.out.trans (hb.mono HBY.out.size)); clear hb)
            | (go_at_call 10; (with_reducible refine (HNG.out _ HBY.out).mono ?_); rintro e w' ⟨rfl, hb⟩; have HBY := Lib.hid (HBY.out.trans (hb.mono HBY.out.size)); clear hb)
            | (go_at_call 11; (with_reducible refine (HSF.out _ HBY.out HY3.out).mono ?_); rintro e w' ⟨rfl, hb⟩; have HBY := Lib.hid (HBY.out.trans (hb.mono HBY.out.size)); clear hb)
            | (go_at_call 11; (with_reducible refine (HSG.out _ HBY.out HY4.out).mono ?_); rintro e w' ⟨rfl, hb⟩; have HBY := Lib.hid (HBY.out.trans (hb.mono HBY.out.size)); clear hb)
            | (go_at_call 12; (with_reducible refine (HFM.out _ HBY.out ZF3.out).mono ?_); rintro e w' ⟨rfl, hb⟩; have HBY := Lib.hid (HBY.out.trans (hb.mono HBY.out.size)); clear hb)
            | (go_at_call 13; (with_reducible refine (HGM.out _ HBY.out ZF4.out).mono ?_); rintro e w' ⟨rfl, hb⟩; have HBY := Lib.hid (HBY.out.trans (hb.mono HBY.out.size)); clear hb)
            | (go_at_call 14; (with_reducible refine (HAW.out _).mono ?_); rintro e w' ⟨rfl, hb⟩; have HBY := Lib.hid (HBY.out.trans (hb.mono HBY.out.size)); clear hb))
          go_ret
          exact ⟨rfl, HB6.out.trans (HBY.out.mono HB6.out.size)⟩
        · have zd4 := zc4
          go_wp2_with (first
            | (go_at_call 10; (with_reducible refine (HNF.out _ HBY.out).mono ?_); rintro e w' ⟨rfl, hb⟩; have HBY := Lib.hid (HBY.out.trans (hb.mono HBY.out.size)); clear hb)
            | (go_at_call 10; (with_reducible refine (HNG.out _ HBY.out).mono ?_); rintro e w' ⟨rfl, hb⟩; have HBY := Lib.hid (HBY.out.trans (hb.mono HBY.out.size)); clear hb)
            | (go_at_call 11; (with_reducible refine (HSF.out _ HBY.out HY3.out).mono ?_); rintro e w' ⟨rfl, hb⟩; have HBY := Lib.hid (HBY.out.trans (hb.mono HBY.out.size)); clear hb)
            | (go_at_call 11; (with_reducible refine (HSG.out _ HBY.out HY4.out).mono ?_); rintro e w' ⟨rfl, hb⟩; have HBY := Lib.hid (HBY.out.trans (hb.mono HBY.out.size)); clear hb)
            | (go_at_call 12; (with_reducible refine (HFM.out _ HBY.out ZF3.out).mono ?_); rintro e w' ⟨rfl, hb⟩; have HBY := Lib.hid (HBY.out.trans (hb.mono HBY.out.size)); clear hb)
            | (go_at_call 13; (with_reducible refine (HGM.out _ HBY.out ZF4.out).mono ?_); rintro e w' ⟨rfl, hb⟩; have HBY := Lib.hid (HBY.out.trans (hb.mono HBY.out.size)); clear hb)
            | (go_at_call 14; (with_reducible refine (HAW.out _).mono ?_); rintro e w' ⟨rfl, hb⟩; have HBY := Lib.hid (HBY.out.trans (hb.mono HBY.out.size)); clear hb))
          go_ret
          exact ⟨rfl, HB6.out.trans (HBY.out.mono HB6.out.size)⟩
      · rcases fin4 with ⟨-, zf4⟩ | zc4
        · have ZF4 := Lib.hid zf4
          have HY4 := Lib.hid yl4
          clear zf4 yl4
          subst y4
          subst yp4
          go_wp2_with (first
            | (go_at_call 10; (with_reducible refine (HNF.out _ HBY.out).mono ?_); rintro e w' ⟨rfl, hb⟩; have HBY := Lib.hid (HBY.out.trans (hb.mono HBY.out.size)); clear hb)
            | (go_at_call 10; (with_reducible refine (HNG.out _ HBY.out).mono ?_); rintro e w' ⟨rfl, hb⟩; have HBY := Lib.hid (HBY.out.trans (hb.mono HBY.out.size)); clear hb)
            | (go_at_call 11; (with_reducible refine (HSF.out _ HBY.out HY3.out).mono ?_); rintro e w' ⟨rfl, hb⟩; have HBY := Lib.hid (HBY.out.trans (hb.mono HBY.out.size)); clear hb)
            | (go_at_call 11; (with_reducible refine (HSG.out _ HBY.out HY4.out).mono ?_); rintro e w' ⟨rfl, hb⟩; have HBY := Lib.hid (HBY.out.trans (hb.mono HBY.out.size)); clear hb)
            | (go_at_call 12; (with_reducible refine (HFM.out _ HBY.out ZF3.out).mono ?_); rintro e w' ⟨rfl, hb⟩; have HBY := Lib.hid (HBY.out.trans (hb.mono HBY.out.size)); clear hb)
            | (go_at_call 13; (with_reducible refine (HGM.out _ HBY.out ZF4.out).mono ?_); rintro e w' ⟨rfl, hb⟩; have HBY := Lib.hid (HBY.out.trans (hb.mono HBY.out.size)); clear hb)
            | (go_at_call 14; (with_reducible refine (HAW.out _).mono ?_); rintro e w' ⟨rfl, hb⟩; have HBY := Lib.hid (HBY.out.trans (hb.mono HBY.out.size)); clear hb))
          go_ret
          exact ⟨rfl, HB6.out.trans (HBY.out.mono HB6.out.size)⟩
        · subst y4
          exact absurd zc4 (by decide)
  · rcases fin3 with ⟨-, zf3⟩ | zc3
    · have ZF3 := Lib.hid zf3
      have HY3 := Lib.hid yl3
      clear zf3 yl3
      subst y3
      subst yp3
      rcases k4 with z4 | ⟨z4, z4'⟩ | ⟨z4, z4', y4, yp4, yl4⟩
      · rcases fin4 with ⟨y4, zf4⟩ | zc4
        · subst y4
          have ZF4 := Lib.hid zf4
          clear zf4
          go_wp2_with (first
            | (go_at_call 10; (with_reducible refine (HNF.out _ HBY.out).mono ?_); rintro e w' ⟨rfl, hb⟩; have HBY := Lib.hid (HBY.out.trans (hb.mono HBY.out.size)); clear hb)
            | (go_at_call 10; (with_reducible refine (HNG.out _ HBY.out).mono ?_); rintro e w' ⟨rfl, hb⟩; have HBY := Lib.hid (HBY.out.trans (hb.mono HBY.out.size)); clear hb)
            | (go_at_call 11; (with_reducible refine (HSF.out _ HBY.out HY3.out).mono ?_); rintro e w' ⟨rfl, hb⟩; have HBY := Lib.hid (HBY.out.trans (hb.mono HBY.out.size)); clear hb)
            | (go_at_call 11; (with_reducible refine (HSG.out _ HBY.out HY4.out).mono ?_); rintro e w' ⟨rfl, hb⟩; have HBY := Lib.hid (HBY.out.trans (hb.mono HBY.out.size)); clear hb)
            | (go_at_call 12; (with_reducible refine (HFM.out _ HBY.out ZF3.out).mono ?_); rintro e w' ⟨rfl, hb⟩; have HBY := Lib.hid (HBY.out.trans (hb.mono HBY.out.size)); clear hb)
            | (go_at_call 13; (with_reducible refine (HGM.out _ HBY.out ZF4.out).mono ?_); rintro e w' ⟨rfl, hb⟩; have HBY := Lib.hid (HBY.out.trans (hb.mono HBY.out.size)); clear hb)
            | (go_at_call 14; (with_reducible refine (HAW.out _).mono ?_); rintro e w' ⟨rfl, hb⟩; have HBY := Lib.hid (HBY.out.trans (hb.mono HBY.out.size)); clear hb))
          go_ret
          exact ⟨rfl, HB6.out.trans (HBY.out.mono HB6.out.size)⟩
        · have zd4 := zc4
          go_wp2_with (first
            | (go_at_call 10; (with_reducible refine (HNF.out _ HBY.out).mono ?_); rintro e w' ⟨rfl, hb⟩; have HBY := Lib.hid (HBY.out.trans (hb.mono HBY.out.size)); clear hb)
            | (go_at_call 10; (with_reducible refine (HNG.out _ HBY.out).mono ?_); rintro e w' ⟨rfl, hb⟩; have HBY := Lib.hid (HBY.out.trans (hb.mono HBY.out.size)); clear hb)
            | (go_at_call 11; (with_reducible refine (HSF.out _ HBY.out HY3.out).mono ?_); rintro e w' ⟨rfl, hb⟩; have HBY := Lib.hid (HBY.out.trans (hb.mono HBY.out.size)); clear hb)
            | (go_at_call 11; (with_reducible refine (HSG.out _ HBY.out HY4.out).mono ?_); rintro e w' ⟨rfl, hb⟩; have HBY := Lib.hid (HBY.out.trans (hb.mono HBY.out.size)); clear hb)
            | (go_at_call 12; (with_reducible refine (HFM.out _ HBY.out ZF3.out).mono ?_); rintro e w' ⟨rfl, hb⟩; have HBY := Lib.hid (HBY.out.trans (hb.mono HBY.out.size)); clear hb)
            | (go_at_call 13; (with_reducible refine (HGM.out _ HBY.out ZF4.out).mono ?_); rintro e w' ⟨rfl, hb⟩; have HBY := Lib.hid (HBY.out.trans (hb.mono HBY.out.size)); clear hb)
            | (go_at_call 14; (with_reducible refine (HAW.out _).mono ?_); rintro e w' ⟨rfl, hb⟩; have HBY := Lib.hid (HBY.out.trans (hb.mono HBY.out.size)); clear hb))
          go_ret
          exact ⟨rfl, HB6.out.trans (HBY.out.mono HB6.out.size)⟩
      · rcases fin4 with ⟨y4, zf4⟩ | zc4
        · subst y4
          have ZF4 := Lib.hid zf4
          clear zf4
          go_wp2_with (first
            | (go_at_call 10; (with_reducible refine (HNF.out _ HBY.out).mono ?_); rintro e w' ⟨rfl, hb⟩; have HBY := Lib.hid (HBY.out.trans (hb.mono HBY.out.size)); clear hb)
            | (go_at_call 10; (with_reducible refine (HNG.out _ HBY.out).mono ?_); rintro e w' ⟨rfl, hb⟩; have HBY := Lib.hid (HBY.out.trans (hb.mono HBY.out.size)); clear hb)
            | (go_at_call 11; (with_reducible refine (HSF.out _ HBY.out HY3.out).mono ?_); rintro e w' ⟨rfl, hb⟩; have HBY := Lib.hid (HBY.out.trans (hb.mono HBY.out.size)); clear hb)
            | (go_at_call 11; (with_reducible refine (HSG.out _ HBY.out HY4.out).mono ?_); rintro e w' ⟨rfl, hb⟩; have HBY := Lib.hid (HBY.out.trans (hb.mono HBY.out.size)); clear hb)
            | (go_at_call 12; (with_reducible refine (HFM.out _ HBY.out ZF3.out).mono ?_); rintro e w' ⟨rfl, hb⟩; have HBY := Lib.hid (HBY.out.trans (hb.mono HBY.out.size)); clear hb)
            | (go_at_call 13; (with_reducible refine (HGM.out _ HBY.out ZF4.out).mono ?_); rintro e w' ⟨rfl, hb⟩; have HBY := Lib.hid (HBY.out.trans (hb.mono HBY.out.size)); clear hb)
            | (go_at_call 14; (with_reducible refine (HAW.out _).mono ?_); rintro e w' ⟨rfl, hb⟩; have HBY := Lib.hid (HBY.out.trans (hb.mono HBY.out.size)); clear hb))
          go_ret
          exact ⟨rfl, HB6.out.trans (HBY.out.mono HB6.out.size)⟩
        · have zd4 := zc4
          go_wp2_with (first
            | (go_at_call 10; (with_reducible refine (HNF.out _ HBY.out).mono ?_); rintro e w' ⟨rfl, hb⟩; have HBY := Lib.hid (HBY.out.trans (hb.mono HBY.out.size)); clear hb)
            | (go_at_call 10; (with_reducible refine (HNG.out _ HBY.out).mono ?_); rintro e w' ⟨rfl, hb⟩; have HBY := Lib.hid (HBY.out.trans (hb.mono HBY.out.size)); clear hb)
            | (go_at_call 11; (with_reducible refine (HSF.out _ HBY.out HY3.out).mono ?_); rintro e w' ⟨rfl, hb⟩; have HBY := Lib.hid (HBY.out.trans (hb.mono HBY.out.size)); clear hb)
            | (go_at_call 11; (with_reducible refine (HSG.out _ HBY.out HY4.out).mono ?_); rintro e w' ⟨rfl, hb⟩; have HBY := Lib.hid (HBY.out.trans (hb.mono HBY.out.size)); clear hb)
            | (go_at_call 12; (with_reducible refine (HFM.out _ HBY.out ZF3.out).mono ?_); rintro e w' ⟨rfl, hb⟩; have HBY := Lib.hid (HBY.out.trans (hb.mono HBY.out.size)); clear hb)
            | (go_at_call 13; (with_reducible refine (HGM.out _ HBY.out ZF4.out).mono ?_); rintro e w' ⟨rfl, hb⟩; have HBY := Lib.hid (HBY.out.trans (hb.mono HBY.out.size)); clear hb)
            | (go_at_call 14; (with_reducible refine (HAW.out _).mono ?_); rintro e w' ⟨rfl, hb⟩; have HBY := Lib.hid (HBY.out.trans (hb.mono HBY.out.size)); clear hb))
          go_ret
          exact ⟨rfl, HB6.out.trans (HBY.out.mono HB6.out.size)⟩
      · rcases fin4 with ⟨-, zf4⟩ | zc4
        · have ZF4 := Lib.hid zf4
          have HY4 := Lib.hid yl4
          clear zf4 yl4
          subst y4
          subst yp4
          go_wp2_with (first
            | (go_at_call 10; (with_reducible refine (HNF.out _ HBY.out).mono ?_); rintro e w' ⟨rfl, hb⟩; have HBY := Lib.hid (HBY.out.trans (hb.mono HBY.out.size)); clear hb)
            | (go_at_call 10; (with_reducible refine (HNG.out _ HBY.out).mono ?_); rintro e w' ⟨rfl, hb⟩; have HBY := Lib.hid (HBY.out.trans (hb.mono HBY.out.size)); clear hb)
            | (go_at_call 11; (with_reducible refine (HSF.out _ HBY.out HY3.out).mono ?_); rintro e w' ⟨rfl, hb⟩; have HBY := Lib.hid (HBY.out.trans (hb.mono HBY.out.size)); clear hb)
            | (go_at_call 11; (with_reducible refine (HSG.out _ HBY.out HY4.out).mono ?_); rintro e w' ⟨rfl, hb⟩; have HBY := Lib.hid (HBY.out.trans (hb.mono HBY.out.size)); clear hb)
            | (go_at_call 12; (with_reducible refine (HFM.out _ HBY.out ZF3.out).mono ?_); rintro e w' ⟨rfl, hb⟩; have HBY := Lib.hid (HBY.out.trans (hb.mono HBY.out.size)); clear hb)
            | (go_at_call 13; (with_reducible refine (HGM.out _ HBY.out ZF4.out).mono ?_); rintro e w' ⟨rfl, hb⟩; have HBY := Lib.hid (HBY.out.trans (hb.mono HBY.out.size)); clear hb)
            | (go_at_call 14; (with_reducible refine (HAW.out _).mono ?_); rintro e w' ⟨rfl, hb⟩; have HBY := Lib.hid (HBY.out.trans (hb.mono HBY.out.size)); clear hb))
          go_ret
          exact ⟨rfl, HB6.out.trans (HBY.out.mono HB6.out.size)⟩
        · subst y4
          exact absurd zc4 (by decide)
    · subst y3
      exact absurd zc3 (by decide)
end Go.Proofs.YtnoghlhggeffnaaDoor.Show
