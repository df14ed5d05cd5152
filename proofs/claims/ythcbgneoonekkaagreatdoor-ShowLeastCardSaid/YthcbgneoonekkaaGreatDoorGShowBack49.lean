/-
  The walk of the law ShowBack. By an AI agent.
  The tables of math/bits and internal/strconv and the kinds' words: what a row that lists them gives the walks; a world in which they lie as their initialisers lay them. By an AI agent.
-/
import Derived.Test.YthcbgneoonekkaaGreatDoorGShowBack22
import Derived.Test.YthcbgneoonekkaaGreatDoorGShowBack35
import Derived.Test.YthcbgneoonekkaaGreatDoorGShowBack41
import Derived.Test.YthcbgneoonekkaaGreatDoorGShowBack48
import Derived.Test.YthcbgneoonekkaaGreatDoorRows
import Derived.Test.YthcbgneoonekkaaGreatDoorGShowBack9
import Derived.Deep.DeepHandedRow
import Derived.LaidSub
import Derived.Lib.LaidTab
import Derived.Lib.TrailingZeros
namespace Go.Proofs.YthcbgneoonekkaaGreatDoor.Show
open Go.RowKit Go.Proofs.YthcbgneoonekkaaGreatDoor.Tree Go.Proofs.YthcbgneoonekkaaGreatDoor.Itoa Go.Proofs.YthcbgneoonekkaaGreatDoor.Ints

/-- What a text is read as: by its length and its depth. -/
def BackW (f l : List Nd) (c : Nat) : Prop := (2000 < (textL f).length ∧ c = 4 ∧ l = []) ∨ ((textL f).length ≤ 2000 ∧ 40 < nestL f ∧ c = 3 ∧ l = []) ∨ ((textL f).length ≤ 2000 ∧ nestL f ≤ 40 ∧ c = 0 ∧ l = f)
theorem back_ways {g : Bool} {f l : List Nd} {p c : Nat} (hf : mayL f = true) (hk : regKind (lastKind f) = g) (hl : f.length ≤ 100) (hx : Parse.parseS g (textL f) = (l, p, c)) : BackW f l c := by
  by_cases h1 : (textL f).length ≤ 2000
  · by_cases h2 : nestL f ≤ 40
    · have hb := text_back hf hk (by omega) h1 h2
      rw [hx] at hb
      injection hb with b1 b2
      injection b2 with b2 b3
      exact Or.inr (Or.inr ⟨h1, h2, b3, b1⟩)
    · obtain ⟨q, hq⟩ := text_deep hf hk (by omega) h1 (by omega)
      rw [hx] at hq
      injection hq with b1 b2
      injection b2 with b2 b3
      exact Or.inr (Or.inl ⟨h1, by omega, b3, b1⟩)
  · have hq := text_long (bs := textL f) g (by omega)
    rw [hx] at hq
    injection hq with b1 b2
    injection b2 with b2 b3
    exact Or.inl ⟨by omega, b3, b1⟩
theorem same_yes {f : FuncId} {args : Array Value} {W : World} {a b : List Nd} (he : a = b) (h : Calls Tryz.prog f args W fun e w' => e = .returned (.bool (decide (a = b))) ∧ Below W.heap.size W w') : Calls Tryz.prog f args W fun e w' => e = .returned (.bool true) ∧ Below W.heap.size W w' := by
  rw [decide_eq_true he] at h
  exact h
set_option maxHeartbeats 8000000 in
set_option maxRecDepth 100000 in
theorem lawOneBack (A B : Option Addr) (n m c d : Nat) (f l : List Nd) (e : Nat) (w : World) (hl : f.length = n) (hn : n ≤ 100) (hN : Nodes Any w A f) (hm : l.length = m) (hM : Nodes Any w B l) (hT : Tabs w) (hw : BackW f l e) :
    Calls Tryz.prog 10 #[.slice A n c, .slice B m d, .int .i64 (e : Int)] w fun r w' => r = .returned (.bool true) ∧ Below w.heap.size w w' := by
  have HT1 := Lib.hid (landText A n c f w hl (by omega) hN hT)
  have HNS := Lib.hid (fun W (hb : Below w.heap.size w W) => landNest A n c f W hl (by omega) (hN.below hb))
  have HSM := Lib.hid (fun W (hb : Below w.heap.size w W) (he : f = l) => same_yes he <| refSameNodes A B n c m d f l W hl hm (by omega) (hN.below hb) (hM.below hb))
  obtain ⟨S, hS⟩ : ∃ S, Lex.bytes (textL f) = S := ⟨_, rfl⟩
  have hz : S.size = (textL f).length := by rw [← hS]; rfl
  rw [hS] at HT1
  have HL := Lib.hid hl
  have HM := Lib.hid hm
  have hq : nestL f ≤ 1000 := by
    unfold nestL
    split
    · next h => have := nst_bound h (f.length - 1) (by have := may_ne h; omega); omega
    · omega
  have hq64 : (nestL f : Int) ≤ 1000 := by omega
  have hq0 : (0 : Int) ≤ (nestL f : Int) := by omega
  unfold BackW at hw
  rw [← hz] at hw
  clear hl hn hN hm hM hT hS hz hq
  rcases hw with ⟨h1, rfl, rfl⟩ | ⟨h1, h2, rfl, rfl⟩ | ⟨h1, h2, rfl, rfl⟩
  · have e1 : (2000 : Int) < (S.size : Int) := by omega
    obtain rfl : 0 = m := HM.out
    go_enter Tryz.func10, Tryz.ntmps10
    go_wp2_with fail
    refine HT1.out.mono ?_
    rintro e w1 ⟨rfl, hb1⟩
    go_wp2_with fail
    go_ret
    exact ⟨rfl, hb1⟩
  · have e1 : ¬ (2000 : Int) < (S.size : Int) := by omega
    have e2 : (40 : Int) < (nestL f : Int) := by omega
    obtain rfl : 0 = m := HM.out
    go_enter Tryz.func10, Tryz.ntmps10
    go_wp2_with fail
    refine HT1.out.mono ?_
    rintro e w1 ⟨rfl, hb1⟩
    have HB1 := Lib.hid hb1
    clear hb1
    go_wp2_with fail
    refine (HNS.out _ HB1.out).mono ?_
    rintro e w2 ⟨rfl, hb2⟩
    go_wp2_with fail
    go_ret
    exact ⟨rfl, HB1.out.trans (hb2.mono HB1.out.size)⟩
  · have e1 : ¬ (2000 : Int) < (S.size : Int) := by omega
    have e2 : ¬ (40 : Int) < (nestL l : Int) := by omega
    go_enter Tryz.func10, Tryz.ntmps10
    go_wp2_with fail
    refine HT1.out.mono ?_
    rintro e w1 ⟨rfl, hb1⟩
    have HB1 := Lib.hid hb1
    clear hb1
    go_wp2_with fail
    refine (HNS.out _ HB1.out).mono ?_
    rintro e w2 ⟨rfl, hb2⟩
    have HB2 := Lib.hid (HB1.out.trans (hb2.mono HB1.out.size))
    clear hb2
    go_wp2_with fail
    refine (HSM.out _ HB2.out (by first | rfl | trivial)).mono ?_
    rintro e w3 ⟨rfl, hb3⟩
    go_wp2_with fail
    go_ret
    exact ⟨rfl, HB2.out.trans (hb3.mono HB2.out.size)⟩
set_option maxHeartbeats 40000000 in
set_option maxRecDepth 100000 in
theorem lawBack7 (A : Option Addr) (n c : Nat) (zs : List Int) (w : World) (h : Rd .u16 w A n zs) (hn : n ≤ maxLen) (hT : Tabs w) :
    Calls Tryz.prog 3 #[.slice A n c] w fun e w' => e = .returned (.bool true) ∧ Below w.heap.size w w' := by
  have HMK := Lib.hid (lawMake A n c zs false w h hn)
  have HRG := Lib.hid (fun W (hb : Below w.heap.size w W) => lawReg A n c zs false W (h.below hb) hn)
  have hz := fun z hz => wf_u16 (h.all z hz)
  have hmo := make_ok false zs hz
  have hro := reg_ok false zs hz
  obtain ⟨F, hF⟩ : ∃ F, makeL false zs = F := ⟨_, rfl⟩
  obtain ⟨G, hG⟩ : ∃ G, regMk false zs = G := ⟨_, rfl⟩
  rw [hF] at HMK hmo
  rw [hG] at HRG hro
  have HMO := Lib.hid hmo
  have HRO := Lib.hid hro
  have HTB := Lib.hid (fun W (hb : Below w.heap.size w W) => hT.later hb)
  have HAW := Lib.hid (fun W (hb : Below w.heap.size w W) => awake W (hT.later hb))
  obtain ⟨⟨l3, p3, c3⟩, hx3⟩ : ∃ x, Parse.parseS false (textL F) = x := ⟨_, rfl⟩
  obtain ⟨⟨l4, p4, c4⟩, hx4⟩ : ∃ x, Parse.parseS true (textL G) = x := ⟨_, rfl⟩
  have HW3 := Lib.hid (back_ways hmo.1.1 hmo.1.2.1 hmo.2 hx3)
  have HW4 := Lib.hid (back_ways hro.1.1 hro.1.2.1 hro.2 hx4)
  have HX3 := Lib.hid hx3
  have HX4 := Lib.hid hx4
  clear h hn hz hT hmo hro hF hG hx3 hx4
  go_enter Tryz.func3, Tryz.ntmps3
  go_wp2_with fail
  refine HMK.out.mono ?_
  rintro e w1 ⟨A1, c1, rfl, hN1, -, -, hb1⟩
  have HN1 := Lib.hid hN1
  have HB1 := Lib.hid hb1
  clear hN1 hb1
  go_wp2_with fail
  refine (HRG.out _ HB1.out).mono ?_
  rintro e w2 ⟨A2, c2, rfl, hN2, -, -, hb2⟩
  have HN1' := Lib.hid (HN1.out.below hb2)
  have HN2 := Lib.hid hN2
  have HB2 := Lib.hid (HB1.out.trans (hb2.mono HB1.out.size))
  clear hN2 hb2
  obtain ⟨n1, hn1⟩ : ∃ n, F.length = n := ⟨_, rfl⟩
  obtain ⟨n2, hn2⟩ : ∃ n, G.length = n := ⟨_, rfl⟩
  have HL1 := Lib.hid (And.intro hn1 (show n1 ≤ 100 by rw [← hn1]; exact HMO.out.2))
  have HL2 := Lib.hid (And.intro hn2 (show n2 ≤ 100 by rw [← hn2]; exact HRO.out.2))
  rw [hn1, hn2]
  clear hn1 hn2
  go_wp2_with fail
  refine (landText A1 n1 c1 F w2 HL1.out.1 (by have := HL1.out.2; omega) HN1'.out (HTB.out _ HB2.out)).mono ?_
  rintro e w3 ⟨rfl, hb3⟩
  have HB3 := Lib.hid (HB2.out.trans (hb3.mono HB2.out.size))
  have HN1 := Lib.hid (HN1'.out.below hb3)
  have HN2' := Lib.hid (HN2.out.below hb3)
  clear hb3
  obtain ⟨S1, hS1⟩ : ∃ S, Lex.bytes (textL F) = S := ⟨_, rfl⟩
  have hz1 : S1.size = (textL F).length := by rw [← hS1]; rfl
  have hq1 : S1.data.toList = textL F := by rw [← hS1]; rfl
  have HZ1 := Lib.hid (show S1.size ≤ maxLen by have : maxLen = 9223372036854775807 := rfl; have := textL_len HMO.out.1.1; have := HMO.out.2; omega)
  have HP3 := Lib.hid (Parse.landParse S1 w3 HZ1.out)
  rw [hq1, HX3.out] at HP3
  rw [hS1]
  clear hS1 hz1 hq1
  go_wp2_with fail
  refine HP3.out.mono ?_
  rintro e w4 ⟨A3, n3, c3', rfl, hn3, hN3, -, -, hb4⟩
  have HB4 := Lib.hid (HB3.out.trans (hb4.mono HB3.out.size))
  have HN1' := Lib.hid (HN1.out.below hb4)
  have HN2 := Lib.hid (HN2'.out.below hb4)
  have HN3 := Lib.hid hN3
  have HL3 := Lib.hid (show l3.length = n3 from hn3)
  clear hN3 hn3 hb4
  go_wp2_with fail
  refine (landText A2 n2 c2 G w4 HL2.out.1 (by have := HL2.out.2; omega) HN2.out (HTB.out _ HB4.out)).mono ?_
  rintro e w5 ⟨rfl, hb5⟩
  have HB5 := Lib.hid (HB4.out.trans (hb5.mono HB4.out.size))
  have HN1 := Lib.hid (HN1'.out.below hb5)
  have HN2' := Lib.hid (HN2.out.below hb5)
  have HN3' := Lib.hid (HN3.out.below hb5)
  clear hb5
  obtain ⟨S2, hS2⟩ : ∃ S, Lex.bytes (textL G) = S := ⟨_, rfl⟩
  have hz2 : S2.size = (textL G).length := by rw [← hS2]; rfl
  have hq2 : S2.data.toList = textL G := by rw [← hS2]; rfl
  have HZ2 := Lib.hid (show S2.size ≤ maxLen by have : maxLen = 9223372036854775807 := rfl; have := textL_len HRO.out.1.1; have := HRO.out.2; omega)
  have HP4 := Lib.hid (Parse.landRegex S2 w5 HZ2.out)
  rw [hq2, HX4.out] at HP4
  rw [hS2]
  clear hS2 hz2 hq2
  go_wp2_with fail
  refine HP4.out.mono ?_
  rintro e w6 ⟨A4, n4, c4', rfl, hn4, hN4, -, -, hb6⟩
  have HB6 := Lib.hid (HB5.out.trans (hb6.mono HB5.out.size))
  have HN1' := Lib.hid (HN1.out.below hb6)
  have HN2 := Lib.hid (HN2'.out.below hb6)
  have HN3 := Lib.hid (HN3'.out.below hb6)
  have HN4 := Lib.hid hN4
  have HL4 := Lib.hid (show l4.length = n4 from hn4)
  clear hN4 hn4 hb6
  go_wp2_with fail
  refine (lawOneBack A1 A3 n1 n3 c1 c3' F l3 c3 w6 HL1.out.1 HL1.out.2 HN1'.out HL3.out HN3.out (HTB.out _ HB6.out) HW3.out).mono ?_
  rintro e w7 ⟨rfl, hb7⟩
  have HB7 := Lib.hid (HB6.out.trans (hb7.mono HB6.out.size))
  have HN2' := Lib.hid (HN2.out.below hb7)
  have HN4' := Lib.hid (HN4.out.below hb7)
  clear hb7
  go_wp2_with fail
  refine (lawOneBack A2 A4 n2 n4 c2 c4' G l4 c4 w7 HL2.out.1 HL2.out.2 HN2'.out HL4.out HN4'.out (HTB.out _ HB7.out) HW4.out).mono ?_
  rintro e w8 ⟨rfl, hb8⟩
  have HB8 := Lib.hid (HB7.out.trans (hb8.mono HB7.out.size))
  clear hb8
  go_wp2_with fail
  refine (HAW.out _ HB8.out).mono ?_
  rintro e w9 ⟨rfl, hb9⟩
  go_wp2_with fail
  go_ret
  exact ⟨rfl, HB8.out.trans (hb9.mono HB8.out.size)⟩
end Go.Proofs.YthcbgneoonekkaaGreatDoor.Show

namespace Go.Proofs.YthcbgneoonekkaaGreatDoor.ShowTab
open Go.RowKit

abbrev listed : List (String × DataW Unit) := [("math/bits.deBruijn32tab", Rows.laid_math_bits_deBruijn32tab), ("math/bits.deBruijn64tab", Rows.laid_math_bits_deBruijn64tab), ("internal/strconv.uint64pow10", Rows.laid_internal_strconv_uint64pow10), ("watchglass/show.words", Rows.laid_watchglass_show_words)]
theorem gTab : Tryz.prog.globalNamed "internal/strconv.uint64pow10" = some 2 := by kernel_rfl
theorem gTabType : (Tryz.prog.globals[2]?).map (·.type) = some 128 := by kernel_rfl
theorem gWordsType : (Tryz.prog.globals[0]?).map (·.type) = some 96 := by kernel_rfl
theorem cellsTab : Tryz.prog.cellsOf 128 = 20 := by kernel_rfl
theorem cellsOne : Tryz.prog.cellsOf 122 = 1 := by kernel_rfl
theorem cellsWords : Tryz.prog.cellsOf 96 = 23 := by kernel_rfl
theorem cellsStr1 : Tryz.prog.cellsOf 9 = 1 := by kernel_rfl
theorem lone {W : World} (h : laidMetH Tryz.prog listed W) : laidMetH Tryz.prog [("internal/strconv.uint64pow10", Rows.laid_internal_strconv_uint64pow10)] W :=
  h.filter fun x => x.1 == "internal/strconv.uint64pow10"
theorem lone2 {W : World} (h : laidMetH Tryz.prog listed W) : laidMetH Tryz.prog [("watchglass/show.words", Rows.laid_watchglass_show_words)] W :=
  h.filter fun x => x.1 == "watchglass/show.words"

set_option maxRecDepth 100000 in
theorem tab_of {W : World} (h : laidMetH Tryz.prog listed W) : Show.Tabs W :=
  ⟨Lib.tabIs_of_head (rest := []) gTab gTabType Tryz.underlying128 Tryz.underlying122 cellsOne cellsTab (lone h),
   Show.words_of_head (rest := []) gWordsType Tryz.underlying96 Tryz.underlying9 cellsStr1 cellsWords (lone2 h)⟩

/-- The cells, others. -/
def fill (vs : List Value) : Obj → Obj
  | .cells _ t frozen => .cells vs.toArray t frozen
  | o => o
/-- The settled world, the tables (blocks by name) as their initialisers lay them. -/
noncomputable def laidWorld (os : Os) : World :=
  { World.holding Tryz.prog os ⟨#[], #[], []⟩ with heap := ((((World.holding Tryz.prog os ⟨#[], #[], []⟩).heap.modify 2 (fill (Lib.pow10Tab.map fun x => Value.int .u64 x))).modify 3 (fill (Lib.deBruijn32tab.map fun x => Value.int .u8 (Int.ofNat x)))).modify 4 (fill (Lib.deBruijn64tab.map fun x => Value.int .u8 (Int.ofNat x)))).modify 0 (fill (Show.strTab.map fun z => Value.string (Lex.bytes z))) }
theorem laid_met (os : Os) : laidMet Tryz.prog listed ((laidWorld os).forCall (fun _ _ => 0) ⟨#[], #[.int .u16 0, .int .u16 0], []⟩).memory :=
  laidMet_of_run' 8 (by kernel_rfl) (by kernel_rfl)
end Go.Proofs.YthcbgneoonekkaaGreatDoor.ShowTab
