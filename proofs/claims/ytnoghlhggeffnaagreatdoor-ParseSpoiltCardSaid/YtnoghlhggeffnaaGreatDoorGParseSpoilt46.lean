/-
  The walk of the law ParseSpoilt. By an AI agent.
  The tables of math/bits and internal/strconv: what a row that lists them gives the walks; a world in which they lie as their initialisers lay them. By an AI agent.
-/
import Derived.Test.YtnoghlhggeffnaaGreatDoorGParseSpoilt11
import Derived.Test.YtnoghlhggeffnaaGreatDoorGParseSpoilt22
import Derived.Test.YtnoghlhggeffnaaGreatDoorGParseSpoilt45
import Derived.Test.YtnoghlhggeffnaaGreatDoorRows
import Derived.Test.YtnoghlhggeffnaaGreatDoorGParseSpoilt8
import Derived.Deep.DeepHandedRow
import Derived.LaidSub
import Derived.Lib.LaidTab
import Derived.Lib.TrailingZeros
namespace Go.Proofs.YtnoghlhggeffnaaGreatDoor.Show
open Go.RowKit Go.Proofs.YtnoghlhggeffnaaGreatDoor.Tree Go.Proofs.YtnoghlhggeffnaaGreatDoor.Itoa Go.Proofs.YtnoghlhggeffnaaGreatDoor.Ints

set_option maxHeartbeats 16000000 in
set_option maxRecDepth 100000 in
theorem lawSpoilt (A : Option Addr) (n c : Nat) (zs : List Int) (reg : Bool) (from_ out : Int) (s : ByteArray) (w : World) (h : Rd .u16 w A n zs) (hn : n ≤ maxLen) (hf : 0 ≤ from_ ∧ from_ ≤ 65535) (ho : 0 ≤ out ∧ out ≤ 65535) (hs : s.size ≤ 140737488351232) (hT : Tab10 w) :
    Calls Tryz.prog 3 #[.slice A n c, .bool reg, .int .u16 from_, .int .u16 out, .string s] w fun e w' => e = .returned (.bool true) ∧ Below w.heap.size w w' := by
  have HMK := Lib.hid (lawMake A n c zs false w h hn)
  have HRG := Lib.hid (fun W (hb : Below w.heap.size w W) => lawReg A n c zs false W (h.below hb) hn)
  have hz := fun z hz => wf_u16 (h.all z hz)
  have HMO := Lib.hid (make_ok false zs hz)
  have HRO := Lib.hid (reg_ok false zs hz)
  have HTX := Lib.hid (fun (A' : Option Addr) (m c' : Nat) (l : List Nd) (W : World) (hl : l.length = m) (hm : m ≤ 100) (hN : Nodes Any W A' l) (hb : Below w.heap.size w W) => refText A' m c' l W hl (by omega) hN (hT.later hb))
  have HSM := Lib.hid (fun (t : ByteArray) (W : World) (ht : t.size ≤ maxLen) => Parse.lawSame t W ht)
  have HAW := Lib.hid (fun W => Parse.awake W)
  clear h hn hz hT
  go_enter Tryz.func3, Tryz.ntmps3
  go_wp2_with fail
  refine HMK.out.mono ?_
  rintro e w1 ⟨A1, c1, rfl, hN1, -, -, hb1⟩
  have HT1 := Lib.hid (HTX.out A1 _ c1 _ w1 rfl HMO.out.2 hN1 hb1)
  have HB1 := Lib.hid hb1
  have hl1 := textL_len HMO.out.1.1
  have hm1 := HMO.out.2
  clear hN1 hb1
  go_wp2_with fail
  refine HT1.out.mono ?_
  rintro e w2 ⟨rfl, hb2⟩
  have HB2 := Lib.hid (HB1.out.trans (hb2.mono HB1.out.size))
  obtain ⟨S1, hS1⟩ : ∃ S, Lex.bytes (textL (makeL false zs)) = S := ⟨_, rfl⟩
  have hz1 : S1.size ≤ 6400 := by rw [← hS1, bytes_len]; omega
  rw [hS1]
  clear hb2 hl1 hm1 hS1
  have step : ∀ (S1 : ByteArray), S1.size ≤ 6400 → ∃ I J K : Nat, from_ % ((S1.size : Int) + 1) = (I : Int) ∧ out % 4 = (J : Int) ∧ min (S1.size : Int) ((I : Int) + (J : Int)) = (K : Int) ∧ I ≤ K ∧ K ≤ S1.size ∧ J ≤ 3 := by
    intro S1 h1
    have h2 : 0 ≤ from_ % ((S1.size : Int) + 1) ∧ from_ % ((S1.size : Int) + 1) < (S1.size : Int) + 1 := ⟨Int.emod_nonneg _ (by omega), Int.emod_lt_of_pos _ (by omega)⟩
    refine ⟨(from_ % ((S1.size : Int) + 1)).toNat, (out % 4).toNat, min S1.size ((from_ % ((S1.size : Int) + 1)).toNat + (out % 4).toNat), ?_, ?_, ?_, ?_, ?_, ?_⟩ <;> omega
  have HSTEP := Lib.hid step
  clear step
  cases reg
  · obtain ⟨I, J, K, e1, e2, e3, hIK, hKS, hJ⟩ := HSTEP.out S1 hz1
    have hI0 : (0 : Int) ≤ (I : Int) := by omega
    have hI1 : (I : Int) ≤ 6400 := by omega
    have hJ1 : (J : Int) ≤ 3 := by omega
    have hKI : (K : Int) ≤ (S1.size : Int) := by omega
    have hII : (I : Int) ≤ (S1.size : Int) := by omega
    have HZ1 := Lib.hid (show (S1.extract 0 I ++ s ++ S1.extract K S1.size).size ≤ maxLen by
      have : maxLen = 9223372036854775807 := rfl
      simp only [ByteArray.size_append, ByteArray.size_extract]
      omega)
    have HZ2 := Lib.hid (show (S1.extract 0 I).size ≤ maxLen by
      have : maxLen = 9223372036854775807 := rfl
      simp only [ByteArray.size_extract]
      omega)
    go_wp2_with fail
    go_region_with (first
      | (go_at_call 7; (with_reducible refine (HSM.out (S1.extract 0 I ++ s ++ S1.extract K S1.size) _ HZ1.out).mono ?_); rintro e w3 ⟨rfl, hb3⟩)
      | (go_at_call 7; (with_reducible refine (HSM.out (S1.extract 0 I) _ HZ2.out).mono ?_); rintro e w4 ⟨rfl, hb4⟩)
      | (go_at_call 8; (with_reducible refine (HAW.out _).mono ?_); rintro e w5 ⟨rfl, hb5⟩))
    all_goals
      go_wp2_with fail
      go_ret
      have g3 : Below w.heap.size w w3 := (by first | exact HB2.out.trans (hb3.mono HB2.out.size) | exact (HB2.out.drew).trans (hb3.mono HB2.out.size) | exact (HB2.out.trans (bel_drewN _ _ _)).trans (hb3.mono HB2.out.size))
      have g4 := g3.trans (hb4.mono g3.size)
      have g5 := g4.trans (hb5.mono g4.size)
      first | exact ⟨rfl, g5⟩ | exact ⟨rfl, g5.drew⟩
  · go_wp2_with fail
    refine (HRG.out _ HB2.out).mono ?_
    rintro e w3 ⟨A2, c2, rfl, hN2, -, -, hb3⟩
    have HB3 := Lib.hid (HB2.out.trans (hb3.mono HB2.out.size))
    have HT2 := Lib.hid (HTX.out A2 _ c2 _ w3 rfl HRO.out.2 hN2 HB3.out)
    have hl2 := textL_len HRO.out.1.1
    have hm2 := HRO.out.2
    clear hN2 hb3
    go_wp2_with fail
    refine HT2.out.mono ?_
    rintro e w4 ⟨rfl, hb4⟩
    have HB4 := Lib.hid (HB3.out.trans (hb4.mono HB3.out.size))
    obtain ⟨S2, hS2⟩ : ∃ S, Lex.bytes (textL (regMk false zs)) = S := ⟨_, rfl⟩
    have hz2 : S2.size ≤ 6400 := by rw [← hS2, bytes_len]; omega
    rw [hS2]
    clear hb4 hl2 hm2 hS2
    obtain ⟨I, J, K, e1, e2, e3, hIK, hKS, hJ⟩ := HSTEP.out S2 hz2
    have hI0 : (0 : Int) ≤ (I : Int) := by omega
    have hI1 : (I : Int) ≤ 6400 := by omega
    have hJ1 : (J : Int) ≤ 3 := by omega
    have hKI : (K : Int) ≤ (S2.size : Int) := by omega
    have hII : (I : Int) ≤ (S2.size : Int) := by omega
    have HZ1 := Lib.hid (show (S2.extract 0 I ++ s ++ S2.extract K S2.size).size ≤ maxLen by
      have : maxLen = 9223372036854775807 := rfl
      simp only [ByteArray.size_append, ByteArray.size_extract]
      omega)
    have HZ2 := Lib.hid (show (S2.extract 0 I).size ≤ maxLen by
      have : maxLen = 9223372036854775807 := rfl
      simp only [ByteArray.size_extract]
      omega)
    go_wp2_with fail
    go_region_with (first
      | (go_at_call 7; (with_reducible refine (HSM.out (S2.extract 0 I ++ s ++ S2.extract K S2.size) _ HZ1.out).mono ?_); rintro e w5 ⟨rfl, hb6⟩)
      | (go_at_call 7; (with_reducible refine (HSM.out (S2.extract 0 I) _ HZ2.out).mono ?_); rintro e w6 ⟨rfl, hb7⟩)
      | (go_at_call 8; (with_reducible refine (HAW.out _).mono ?_); rintro e w7 ⟨rfl, hb5⟩))
    all_goals
      go_wp2_with fail
      go_ret
      have g3 : Below w.heap.size w w5 := (by first | exact HB4.out.trans (hb6.mono HB4.out.size) | exact (HB4.out.drew).trans (hb6.mono HB4.out.size) | exact (HB4.out.trans (bel_drewN _ _ _)).trans (hb6.mono HB4.out.size))
      have g4 := g3.trans (hb7.mono g3.size)
      have g5 := g4.trans (hb5.mono g4.size)
      first | exact ⟨rfl, g5⟩ | exact ⟨rfl, g5.drew⟩
end Go.Proofs.YtnoghlhggeffnaaGreatDoor.Show

namespace Go.Proofs.YtnoghlhggeffnaaGreatDoor.IvalTab
open Go.RowKit

abbrev listed : List (String × DataW Unit) := [("math/bits.deBruijn32tab", Rows.laid_math_bits_deBruijn32tab), ("math/bits.deBruijn64tab", Rows.laid_math_bits_deBruijn64tab), ("internal/strconv.uint64pow10", Rows.laid_internal_strconv_uint64pow10)]
theorem gTab : Tryz.prog.globalNamed "internal/strconv.uint64pow10" = some 0 := by kernel_rfl
theorem gTabType : (Tryz.prog.globals[0]?).map (·.type) = some 114 := by kernel_rfl
theorem cellsTab : Tryz.prog.cellsOf 114 = 20 := by kernel_rfl
theorem cellsOne : Tryz.prog.cellsOf 95 = 1 := by kernel_rfl
theorem lone {W : World} (h : laidMetH Tryz.prog listed W) : laidMetH Tryz.prog [("internal/strconv.uint64pow10", Rows.laid_internal_strconv_uint64pow10)] W :=
  h.filter fun x => x.1 == "internal/strconv.uint64pow10"

set_option maxRecDepth 100000 in
theorem tab_of {W : World} (h : laidMetH Tryz.prog listed W) : Itoa.Tab10 W :=
  Lib.tabIs_of_head (rest := []) gTab gTabType Tryz.underlying114 Tryz.underlying95 cellsOne cellsTab (lone h)

/-- The cells, others. -/
def fill (vs : List Value) : Obj → Obj
  | .cells _ t frozen => .cells vs.toArray t frozen
  | o => o
/-- The settled world, the tables (blocks 0, 1, 2) as their initialisers lay them. -/
noncomputable def laidWorld (os : Os) : World :=
  { World.holding Tryz.prog os ⟨#[], #[], []⟩ with heap := (((World.holding Tryz.prog os ⟨#[], #[], []⟩).heap.modify 0 (fill (Lib.pow10Tab.map fun x => Value.int .u64 x))).modify 1 (fill (Lib.deBruijn32tab.map fun x => Value.int .u8 (Int.ofNat x)))).modify 2 (fill (Lib.deBruijn64tab.map fun x => Value.int .u8 (Int.ofNat x))) }
theorem laid_met (os : Os) : laidMet Tryz.prog listed ((laidWorld os).forCall (fun _ _ => 0) ⟨#[], #[.int .u16 0, .int .u16 0], []⟩).memory :=
  laidMet_of_run' 8 (by kernel_rfl) (by kernel_rfl)
end Go.Proofs.YtnoghlhggeffnaaGreatDoor.IvalTab
