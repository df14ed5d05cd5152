/-
  The part of TreeMake that speaks of functions which not every seat has. By an AI agent.
  The walk of the law ShowTells. By an AI agent.
  The tables of math/bits and internal/strconv and the kinds' words: what a row that lists them gives the walks; a world in which they lie as their initialisers lay them. By an AI agent.
-/
import Derived.Test.YtmjfopggehopjaaDoorGShowTells42
import Derived.Test.YtmjfopggehopjaaDoorGShowTells29
import Derived.Test.YtmjfopggehopjaaDoorGShowTells33
import Derived.Test.YtmjfopggehopjaaDoorGShowTells34
import Derived.Test.YtmjfopggehopjaaDoorRows
import Derived.Test.YtmjfopggehopjaaDoorGShowTells12
import Derived.Deep.DeepHandedRow
import Derived.LaidSub
import Derived.Lib.LaidTab
import Derived.Lib.TrailingZeros
namespace Go.Proofs.YtmjfopggehopjaaDoor.Tree
open Go.RowKit Go.Proofs.YtmjfopggehopjaaDoor.Ints
set_option maxHeartbeats 4000000 in
set_option maxRecDepth 100000 in
theorem lawReg (A : Option Addr) (n c : Nat) (zs : List Int) (pl : Bool) (w : World) (h : Rd .u16 w A n zs) (hn : n ≤ maxLen) :
    Calls Tryd.prog 6 #[.slice A n c, .bool pl] w (GotNodes Any w (regMk pl zs)) := by
  have HBD := Lib.hid (lawBuild A n c zs pl w h hn)
  have HOK := Lib.hid (buildL_ok pl zs fun z hz => wf_u16 (h.all z hz))
  clear h hn
  go_enter Tryd.func6, Tryd.ntmps6
  go_wp2_with fail
  refine HBD.out.mono ?_
  rintro e w1 ⟨Af, Ar, cf, cr, F, R, rfl, hp, hP, hb⟩
  have hm : regMk pl zs = lastOr (R.map (·.1)) [kindNd 18] := by unfold regMk; rw [← hP]
  have hz : F.length ≤ 100000 ∧ R.length ≤ 100000 := by
    have hok := HOK.out
    rw [← hP] at hok
    have h1 := (small_of (k := 100) hok.f (by have := hok.t; simp only at this; omega) (by omega)).2
    have h2 := (small_of (k := 100) hok.r (by have := hok.t; simp only at this; omega) (by omega)).2
    omega
  obtain ⟨hz1, hz2⟩ := hz
  have HP := Lib.hid hp
  have HM := Lib.hid hm
  have HB := Lib.hid hb
  clear hp hP hm hb
  obtain ⟨q, hq⟩ : ∃ q, R.length = q := ⟨_, rfl⟩
  cases q with
  | zero =>
    have HR := Lib.hid (lastOr_zero (d := [kindNd 18]) hq)
    rw [hq]
    clear hq
    go_wp2
    go_ret
    rw [HM.out, HR.out]
    exact got_single (by omega) HB.out _
  | succ p =>
    obtain ⟨g, l, K, cK, e, hs, hc, hN, hl, hm⟩ := last_at_lists HP.out.2.1 hq
    have HR := Lib.hid (lastOr_some (d := [kindNd 18]) hq hs)
    have HN := Lib.hid hN
    have HLM := Lib.hid (And.intro hl hm)
    have hpp : (p : Int) ≤ 99999 := by omega
    have hp2 : ((p : Int) + 1 == 0) = false := beq_eq_false_iff_ne.2 (by omega)
    have hp0 : (0 : Int) ≤ (p : Int) := by omega
    have hca := below_cell ((Below.refl w1.heap.size w1).alloc (Nat.le_refl _) (.cells #[.slice Af F.length cf, .slice Ar R.length cr] 37)) hc
    rw [hq] at hca ⊢
    subst e
    clear hq hs hN hl hm hz1 hz2
    go_wp2
    go_ret
    rw [HM.out, HR.out]
    exact ⟨K, cK, rfl, HN.out.below ((Below.refl _ _).alloc (Nat.le_refl _) _), HLM.out.1, HLM.out.2, HB.out.alloc HB.out.size _⟩
end Go.Proofs.YtmjfopggehopjaaDoor.Tree

namespace Go.Proofs.YtmjfopggehopjaaDoor.Show
open Go.RowKit Go.Proofs.YtmjfopggehopjaaDoor.Tree Go.Proofs.YtmjfopggehopjaaDoor.Itoa Go.Proofs.YtmjfopggehopjaaDoor.Ints

set_option maxHeartbeats 40000000 in
set_option maxRecDepth 100000 in
theorem lawTells7 (A B : Option Addr) (n c m d : Nat) (l : List Nd) (zs : List Int) (w : World) (hl : l.length = n) (hN : Nodes Any w A l) (hnm : n ≤ maxLen) (h : Rd .u16 w B m zs) (hm : m ≤ maxLen) (hT : Tabs w) :
    Calls Tryd.prog 3 #[.slice A n c, .slice B m d] w fun e w' => e = .returned (.bool true) ∧ Below w.heap.size w w' := by
  have HAW := Lib.hid (fun W (hb : Below w.heap.size w W) => awake W (hT.later hb))
  have hn64 : (n : Int) ≤ 9223372036854775807 := by have : maxLen = 9223372036854775807 := rfl; omega
  have hn0 : (0 : Int) ≤ (n : Int) := by omega
  by_cases hbig : 1000 < n
  · have hb1 : (1000 : Int) < (n : Int) := by omega
    clear hl hN h hm hT hbig
    go_enter Tryd.func3, Tryd.ntmps3
    go_wp2_with (go_at_call 4; refine (HAW.out _ (Below.refl _ _)).mono ?_; rintro e w1 ⟨rfl, hb1⟩)
    go_ret
    exact ⟨rfl, hb1⟩
  · have hb1 : ¬ (1000 : Int) < (n : Int) := by omega
    have HMK := Lib.hid (lawMake B m d zs false w h hm)
    have HRG := Lib.hid (fun W (hb : Below w.heap.size w W) => lawReg B m d zs false W (h.below hb) hm)
    have hz := fun z hz => wf_u16 (h.all z hz)
    have hmo := make_ok false zs hz
    have hro := reg_ok false zs hz
    obtain ⟨F, hF⟩ : ∃ F, makeL false zs = F := ⟨_, rfl⟩
    obtain ⟨G, hG⟩ : ∃ G, regMk false zs = G := ⟨_, rfl⟩
    rw [hF] at HMK hmo
    rw [hG] at HRG hro
    have HMO := Lib.hid hmo.2
    have HRO := Lib.hid hro.2
    have HT1 := Lib.hid (fun (A' : Option Addr) (q c' : Nat) (l : List Nd) (W : World) (hl : l.length = q) (hm : q ≤ 1000) (hN : Nodes Any W A' l) (hb : Below w.heap.size w W) => landText A' q c' l W hl (by omega) hN (hT.later hb))
    have HT2 := Lib.hid (fun (A' : Option Addr) (q c' : Nat) (l : List Nd) (W : World) (hl : l.length = q) (hm : q ≤ 1000) (hN : Nodes Any W A' l) (hb : Below w.heap.size w W) => refText A' q c' l W hl (by omega) hN (hT.later hb).1)
    have HN0 := Lib.hid hN
    have HL0 := Lib.hid hl
    have HLB := Lib.hid hbig
    clear hl hN h hm hT hbig hz hmo hro hF hG
    go_enter Tryd.func3, Tryd.ntmps3
    go_wp2_with fail
    refine HMK.out.mono ?_
    rintro e w1 ⟨A1, c1, rfl, hN1, -, -, hb1'⟩
    have HN1 := Lib.hid hN1
    have HB1 := Lib.hid hb1'
    clear hN1 hb1'
    go_wp2_with fail
    refine (HRG.out _ HB1.out).mono ?_
    rintro e w2 ⟨A2, c2, rfl, hN2, -, -, hb2⟩
    obtain ⟨n1, hn1⟩ : ∃ n, F.length = n := ⟨_, rfl⟩
    obtain ⟨n2, hn2⟩ : ∃ n, G.length = n := ⟨_, rfl⟩
    have HL1 := Lib.hid (And.intro hn1 (show n1 ≤ 1000 by rw [← hn1]; have := HMO.out; omega))
    have HL2 := Lib.hid (And.intro hn2 (show n2 ≤ 1000 by rw [← hn2]; have := HRO.out; omega))
    have HB2 := Lib.hid (HB1.out.trans (hb2.mono HB1.out.size))
    -- the three lists, at any later world
    have HX0 := Lib.hid (fun W (hb : Below w2.heap.size w2 W) => (HN0.out.below HB2.out).below hb)
    have HX1 := Lib.hid (fun W (hb : Below w2.heap.size w2 W) => (HN1.out.below hb2).below hb)
    have HX2 := Lib.hid (fun W (hb : Below w2.heap.size w2 W) => Nodes.below hN2 hb)
    rw [hn1, hn2]
    clear hn1 hn2 hN2 hb2
    have ix0 : ∀ W, (Instr.index 26 (.agg #[.slice A n c, .slice A1 n1 c1, .slice A2 n2 c2]) (.int .i64 0)).run Tryd.prog W = .ok (.slice A n c) W := fun W => by kernel_rfl
    have ix1 : ∀ W, (Instr.index 26 (.agg #[.slice A n c, .slice A1 n1 c1, .slice A2 n2 c2]) (.int .i64 1)).run Tryd.prog W = .ok (.slice A1 n1 c1) W := fun W => by kernel_rfl
    have ix2 : ∀ W, (Instr.index 26 (.agg #[.slice A n c, .slice A1 n1 c1, .slice A2 n2 c2]) (.int .i64 2)).run Tryd.prog W = .ok (.slice A2 n2 c2) W := fun W => by kernel_rfl
    go_wp2
    go_loopw [21] (fun i wr => ∃ j : Nat, j ≤ 3 ∧ i = .int .i64 j ∧ Hid (Below w2.heap.size w2 wr)) (fun i _ => 3 - (intOf i).toNat)
    case atStart => exact ⟨0, Nat.zero_le _, rfl, Below.refl _ _⟩
    case round =>
      obtain ⟨j, hj, rfl, HB⟩ := hrel
      have hjw : j = 0 ∨ j = 1 ∨ j = 2 ∨ j = 3 := by omega
      rcases hjw with rfl | rfl | rfl | rfl
      · have HLN := Lib.hid (And.intro (HL0.out) (show n ≤ 1000 by have := HLB.out; omega))
        go_wp2_with fail
        refine (HT1.out A n c l _ HLN.out.1 HLN.out.2 (HX0.out _ HB.out) (HB2.out.trans (HB.out.mono HB2.out.size))).mono ?_
        rintro e w3 ⟨rfl, hb3⟩
        have HB3 := Lib.hid (HB.out.trans (hb3.mono HB.out.size))
        clear hb3
        go_wp2_with fail
        refine (HT2.out A n c l _ HLN.out.1 HLN.out.2 (HX0.out _ HB3.out) (HB2.out.trans (HB3.out.mono HB2.out.size))).mono ?_
        rintro e w4 ⟨rfl, hb4⟩
        have HB4 := Lib.hid (HB3.out.trans (hb4.mono HB3.out.size))
        clear hb4
        go_wp2_with fail
        refine (landNest A n c l _ (HLN.out.1) (by have := HLN.out.2; omega) (HX0.out _ HB4.out)).mono ?_
        rintro e w5 ⟨rfl, hb5⟩
        have HB5 := Lib.hid (HB4.out.trans (hb5.mono HB4.out.size))
        clear hb5
        go_wp2_with fail
        refine (refNest A n c l _ (HLN.out.1) (by have := HLN.out.2; omega) (HX0.out _ HB5.out)).mono ?_
        rintro e w6 ⟨rfl, hb6⟩
        have HB6 := Lib.hid (HB5.out.trans (hb6.mono HB5.out.size))
        clear hb6
        go_wp2_with fail
        go_roundw
        case rel => exact ⟨1, by omega, rfl, HB6.out⟩
        case measure => simp [intOf]
      · have HLN := Lib.hid (And.intro (HL1.out.1) (HL1.out.2))
        go_wp2_with fail
        refine (HT1.out A1 n1 c1 F _ HLN.out.1 HLN.out.2 (HX1.out _ HB.out) (HB2.out.trans (HB.out.mono HB2.out.size))).mono ?_
        rintro e w3 ⟨rfl, hb3⟩
        have HB3 := Lib.hid (HB.out.trans (hb3.mono HB.out.size))
        clear hb3
        go_wp2_with fail
        refine (HT2.out A1 n1 c1 F _ HLN.out.1 HLN.out.2 (HX1.out _ HB3.out) (HB2.out.trans (HB3.out.mono HB2.out.size))).mono ?_
        rintro e w4 ⟨rfl, hb4⟩
        have HB4 := Lib.hid (HB3.out.trans (hb4.mono HB3.out.size))
        clear hb4
        go_wp2_with fail
        refine (landNest A1 n1 c1 F _ (HLN.out.1) (by have := HLN.out.2; omega) (HX1.out _ HB4.out)).mono ?_
        rintro e w5 ⟨rfl, hb5⟩
        have HB5 := Lib.hid (HB4.out.trans (hb5.mono HB4.out.size))
        clear hb5
        go_wp2_with fail
        refine (refNest A1 n1 c1 F _ (HLN.out.1) (by have := HLN.out.2; omega) (HX1.out _ HB5.out)).mono ?_
        rintro e w6 ⟨rfl, hb6⟩
        have HB6 := Lib.hid (HB5.out.trans (hb6.mono HB5.out.size))
        clear hb6
        go_wp2_with fail
        go_roundw
        case rel => exact ⟨2, by omega, rfl, HB6.out⟩
        case measure => simp [intOf]
      · have HLN := Lib.hid (And.intro (HL2.out.1) (HL2.out.2))
        go_wp2_with fail
        refine (HT1.out A2 n2 c2 G _ HLN.out.1 HLN.out.2 (HX2.out _ HB.out) (HB2.out.trans (HB.out.mono HB2.out.size))).mono ?_
        rintro e w3 ⟨rfl, hb3⟩
        have HB3 := Lib.hid (HB.out.trans (hb3.mono HB.out.size))
        clear hb3
        go_wp2_with fail
        refine (HT2.out A2 n2 c2 G _ HLN.out.1 HLN.out.2 (HX2.out _ HB3.out) (HB2.out.trans (HB3.out.mono HB2.out.size))).mono ?_
        rintro e w4 ⟨rfl, hb4⟩
        have HB4 := Lib.hid (HB3.out.trans (hb4.mono HB3.out.size))
        clear hb4
        go_wp2_with fail
        refine (landNest A2 n2 c2 G _ (HLN.out.1) (by have := HLN.out.2; omega) (HX2.out _ HB4.out)).mono ?_
        rintro e w5 ⟨rfl, hb5⟩
        have HB5 := Lib.hid (HB4.out.trans (hb5.mono HB4.out.size))
        clear hb5
        go_wp2_with fail
        refine (refNest A2 n2 c2 G _ (HLN.out.1) (by have := HLN.out.2; omega) (HX2.out _ HB5.out)).mono ?_
        rintro e w6 ⟨rfl, hb6⟩
        have HB6 := Lib.hid (HB5.out.trans (hb6.mono HB5.out.size))
        clear hb6
        go_wp2_with fail
        go_roundw
        case rel => exact ⟨3, by omega, rfl, HB6.out⟩
        case measure => simp [intOf]
      · go_wp2_with (go_at_call 4; refine (HAW.out _ (HB2.out.trans (HB.out.mono HB2.out.size))).mono ?_; rintro e w9 ⟨rfl, hb9⟩)
        go_ret
        exact ⟨rfl, (HB2.out.trans (HB.out.mono HB2.out.size)).trans (hb9.mono (HB2.out.trans (HB.out.mono HB2.out.size)).size)⟩
end Go.Proofs.YtmjfopggehopjaaDoor.Show

namespace Go.Proofs.YtmjfopggehopjaaDoor.ShowTab
open Go.RowKit

abbrev listed : List (String × DataW Unit) := [("math/bits.deBruijn32tab", Rows.laid_math_bits_deBruijn32tab), ("math/bits.deBruijn64tab", Rows.laid_math_bits_deBruijn64tab), ("internal/strconv.uint64pow10", Rows.laid_internal_strconv_uint64pow10), ("watchglass/show.words", Rows.laid_watchglass_show_words)]
theorem gTab : Tryd.prog.globalNamed "internal/strconv.uint64pow10" = some 1 := by kernel_rfl
theorem gTabType : (Tryd.prog.globals[1]?).map (·.type) = some 95 := by kernel_rfl
theorem gWordsType : (Tryd.prog.globals[0]?).map (·.type) = some 80 := by kernel_rfl
theorem cellsTab : Tryd.prog.cellsOf 95 = 20 := by kernel_rfl
theorem cellsOne : Tryd.prog.cellsOf 89 = 1 := by kernel_rfl
theorem cellsWords : Tryd.prog.cellsOf 80 = 23 := by kernel_rfl
theorem cellsStr1 : Tryd.prog.cellsOf 9 = 1 := by kernel_rfl
theorem lone {W : World} (h : laidMetH Tryd.prog listed W) : laidMetH Tryd.prog [("internal/strconv.uint64pow10", Rows.laid_internal_strconv_uint64pow10)] W :=
  h.filter fun x => x.1 == "internal/strconv.uint64pow10"
theorem lone2 {W : World} (h : laidMetH Tryd.prog listed W) : laidMetH Tryd.prog [("watchglass/show.words", Rows.laid_watchglass_show_words)] W :=
  h.filter fun x => x.1 == "watchglass/show.words"

set_option maxRecDepth 100000 in
theorem tab_of {W : World} (h : laidMetH Tryd.prog listed W) : Show.Tabs W :=
  ⟨Lib.tabIs_of_head (rest := []) gTab gTabType Tryd.underlying95 Tryd.underlying89 cellsOne cellsTab (lone h),
   Show.words_of_head (rest := []) gWordsType Tryd.underlying80 Tryd.underlying9 cellsStr1 cellsWords (lone2 h)⟩

/-- The cells, others. -/
def fill (vs : List Value) : Obj → Obj
  | .cells _ t frozen => .cells vs.toArray t frozen
  | o => o
/-- The settled world, the tables (blocks by name) as their initialisers lay them. -/
noncomputable def laidWorld (os : Os) : World :=
  { World.holding Tryd.prog os ⟨#[], #[], []⟩ with heap := ((((World.holding Tryd.prog os ⟨#[], #[], []⟩).heap.modify 1 (fill (Lib.pow10Tab.map fun x => Value.int .u64 x))).modify 2 (fill (Lib.deBruijn32tab.map fun x => Value.int .u8 (Int.ofNat x)))).modify 3 (fill (Lib.deBruijn64tab.map fun x => Value.int .u8 (Int.ofNat x)))).modify 0 (fill (Show.strTab.map fun z => Value.string (Lex.bytes z))) }
theorem laid_met (os : Os) : laidMet Tryd.prog listed ((laidWorld os).forCall (fun _ _ => 0) ⟨#[], #[.int .u16 0, .int .u16 0], []⟩).memory :=
  laidMet_of_run' 8 (by kernel_rfl) (by kernel_rfl)
end Go.Proofs.YtmjfopggehopjaaDoor.ShowTab
