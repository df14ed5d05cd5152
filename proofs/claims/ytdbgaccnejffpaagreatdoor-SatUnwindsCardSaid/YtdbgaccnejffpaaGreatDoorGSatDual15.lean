/-
  DERIVED: THE SHELF's CONTRACTS AT THIS DUMP, IN PLAIN WORDS (tools/lay-plain.mjs out of 'TryzShelf.lean', which tools/lay-shelf.mjs wrote): THE SAME DECLARATIONS UNDER THE SAME NAMES: 'import', 'namespace', 'open', 'def', 'theorem' AND NOTHING ELSE: no command of the shelf's: FOR A HAND-IN. Each laying: the table of numbers ('.._ren') and one theorem, a field a fact of the dump's own or the kernel's comparison; each contract: ONE APPLICATION.
  strconv.Itoa, for every int, by the shelf's contract; its table in its variable. By an AI agent.
  The walk of the reference's SpanText. By an AI agent.
  The walks of the landed ival's endless and May. By an AI agent.
  The walk of the landed ival's Text. By an AI agent.
  The walks of package ival. By an AI agent.
  Events in memory: an event by value, and its two cells; what an event that came in reads as. By an AI agent.
  Lists of strings that came in. By an AI agent.
-/
import Derived.Shelf.Slices.Turned
import Derived.Shelf.Slices.Equal
import Derived.Shelf.Slices.Empties2
import Derived.Test.YtdbgaccnejffpaaGreatDoorProg
import Derived.Test.YtdbgaccnejffpaaGreatDoorChecked
import Derived.Lib.AppendIntMem
import Derived.Lib.ItoaLen
import Derived.Below
import Derived.WalkKit
import Derived.Test.YtdbgaccnejffpaaGreatDoorGSatDual3
import Derived.RegionTactic
import Derived.Deep.RegionWith
import Derived.BigRegion
import Derived.Test.YtdbgaccnejffpaaGreatDoorGSatDual2
namespace Go.Proofs
open Go.Shelf
open Go.Lib in
open Go.Lib in
def Tryz.lays107_ren : Go.Shelf.Ren := ⟨fun | 107 => 56 | 108 => 78 | n => n, fun | 28 => 35 | 3 => 3 | 4 => 4 | 0 => 0 | n => n, fun | n => n⟩
theorem Tryz.lays107 : Go.Proofs.Lays.n107 Tryz.prog Tryz.lays107_ren := {
 mixed := by kernel_rfl
 f107 := Tryz.func56.trans (congrArg some (by kernel_rfl))
 f108 := Tryz.func78.trans (congrArg some (by kernel_rfl))
 t0 := Tryz.underlying0
 a0 := Tryz.isAgg0
 z0 := Tryz.sizeOf0
 v0 := Tryz.zeroValue0
 t3 := Tryz.underlying3
 a3 := Tryz.isAgg3
 z3 := Tryz.sizeOf3
 v3 := Tryz.zeroValue3
 t4 := Tryz.underlying4
 a4 := Tryz.isAgg4
 z4 := Tryz.sizeOf4
 v4 := Tryz.zeroValue4
 t28 := Tryz.underlying35
 a28 := Tryz.isAgg35
 z28 := Tryz.sizeOf35
 v28 := Tryz.zeroValue35 }
open Go.Lib in
theorem Tryz.slices_Contains_int (b off n c : Nat) (zs : List Int) (x : Int) (w : World) (hz : n ≤ zs.length) (hbig : n ≤ 9223372036854775807) (hc : ∀ j, j < zs.length → w.cell? ⟨b, off + j, none⟩ = some (.int .i64 (zs.getD j 0))) :
  Calls Tryz.prog 56 #[.slice (some ⟨b, off, none⟩) n c, .int .i64 x] w fun e w' => e = .returned (.bool ((zs.take n).contains x)) ∧ w' = w := Any.slices_Contains_int Tryz.lays107 b off n c zs x w hz hbig hc
open Go.Lib in
theorem Tryz.slices_Contains_int_empty (a : Option Addr) (c : Nat) (x : Int) (w : World) :
  Calls Tryz.prog 56 #[.slice a 0 c, .int .i64 x] w fun e w' => e = .returned (.bool false) ∧ w' = w := Any.slices_Contains_int_empty Tryz.lays107 a c x w
def Tryz.lays109_ren : Go.Shelf.Ren := ⟨fun | 109 => 54 | n => n, fun | 31 => 25 | 9 => 9 | 3 => 3 | 0 => 0 | 4 => 4 | n => n, fun | n => n⟩
theorem Tryz.lays109 : Go.Proofs.Lays.n109 Tryz.prog Tryz.lays109_ren := {
 mixed := by kernel_rfl
 f109 := Tryz.func54.trans (congrArg some (by kernel_rfl))
 t0 := Tryz.underlying0
 a0 := Tryz.isAgg0
 z0 := Tryz.sizeOf0
 v0 := Tryz.zeroValue0
 t3 := Tryz.underlying3
 a3 := Tryz.isAgg3
 z3 := Tryz.sizeOf3
 v3 := Tryz.zeroValue3
 t4 := Tryz.underlying4
 a4 := Tryz.isAgg4
 z4 := Tryz.sizeOf4
 v4 := Tryz.zeroValue4
 t9 := Tryz.underlying9
 a9 := Tryz.isAgg9
 z9 := Tryz.sizeOf9
 v9 := Tryz.zeroValue9
 t31 := Tryz.underlying25
 a31 := Tryz.isAgg25
 z31 := Tryz.sizeOf25
 v31 := Tryz.zeroValue25 }
open Go.Lib in
theorem Tryz.slices_Index_string (b off n c : Nat) (zs : List ByteArray) (x : ByteArray) (w : World) (hz : n ≤ zs.length) (hbig : n ≤ 9223372036854775807) (hc : ∀ j, j < zs.length → w.cell? ⟨b, off + j, none⟩ = some (.string (zs.getD j ByteArray.empty))) :
  Calls Tryz.prog 54 #[.slice (some ⟨b, off, none⟩) n c, .string x] w fun e w' => e = .returned (.int .i64 (Lib.idxOfS (zs.take n) x)) ∧ w' = w := Any.slices_Index_string Tryz.lays109 b off n c zs x w hz hbig hc
open Go.Lib in
theorem Tryz.slices_Index_string_empty (a : Option Addr) (c : Nat) (x : ByteArray) (w : World) :
  Calls Tryz.prog 54 #[.slice a 0 c, .string x] w fun e w' => e = .returned (.int .i64 (Lib.idxOfS [] x)) ∧ w' = w := Any.slices_Index_string_empty Tryz.lays109 a c x w
def Tryz.lays110_ren : Go.Shelf.Ren := ⟨fun | 110 => 49 | 109 => 54 | n => n, fun | 31 => 25 | 9 => 9 | 4 => 4 | 3 => 3 | 0 => 0 | n => n, fun | n => n⟩
theorem Tryz.lays110 : Go.Proofs.Lays.n110 Tryz.prog Tryz.lays110_ren := {
 mixed := by kernel_rfl
 f109 := Tryz.func54.trans (congrArg some (by kernel_rfl))
 f110 := Tryz.func49.trans (congrArg some (by kernel_rfl))
 t0 := Tryz.underlying0
 a0 := Tryz.isAgg0
 z0 := Tryz.sizeOf0
 v0 := Tryz.zeroValue0
 t3 := Tryz.underlying3
 a3 := Tryz.isAgg3
 z3 := Tryz.sizeOf3
 v3 := Tryz.zeroValue3
 t4 := Tryz.underlying4
 a4 := Tryz.isAgg4
 z4 := Tryz.sizeOf4
 v4 := Tryz.zeroValue4
 t9 := Tryz.underlying9
 a9 := Tryz.isAgg9
 z9 := Tryz.sizeOf9
 v9 := Tryz.zeroValue9
 t31 := Tryz.underlying25
 a31 := Tryz.isAgg25
 z31 := Tryz.sizeOf25
 v31 := Tryz.zeroValue25 }
open Go.Lib in
theorem Tryz.slices_Contains_string (b off n c : Nat) (zs : List ByteArray) (x : ByteArray) (w : World) (hz : n ≤ zs.length) (hbig : n ≤ 9223372036854775807) (hc : ∀ j, j < zs.length → w.cell? ⟨b, off + j, none⟩ = some (.string (zs.getD j ByteArray.empty))) :
  Calls Tryz.prog 49 #[.slice (some ⟨b, off, none⟩) n c, .string x] w fun e w' => e = .returned (.bool (Lib.containsS (zs.take n) x)) ∧ w' = w := Any.slices_Contains_string Tryz.lays110 b off n c zs x w hz hbig hc
open Go.Lib in
theorem Tryz.slices_Contains_string_empty (a : Option Addr) (c : Nat) (x : ByteArray) (w : World) :
  Calls Tryz.prog 49 #[.slice a 0 c, .string x] w fun e w' => e = .returned (.bool false) ∧ w' = w := Any.slices_Contains_string_empty Tryz.lays110 a c x w
def Tryz.lays111_ren : Go.Shelf.Ren := ⟨fun | 111 => 51 | n => n, fun | 28 => 35 | 3 => 3 | 4 => 4 | 0 => 0 | n => n, fun | n => n⟩
theorem Tryz.lays111 : Go.Proofs.Lays.n111 Tryz.prog Tryz.lays111_ren := {
 mixed := by kernel_rfl
 f111 := Tryz.func51.trans (congrArg some (by kernel_rfl))
 t0 := Tryz.underlying0
 a0 := Tryz.isAgg0
 z0 := Tryz.sizeOf0
 v0 := Tryz.zeroValue0
 t3 := Tryz.underlying3
 a3 := Tryz.isAgg3
 z3 := Tryz.sizeOf3
 v3 := Tryz.zeroValue3
 t4 := Tryz.underlying4
 a4 := Tryz.isAgg4
 z4 := Tryz.sizeOf4
 v4 := Tryz.zeroValue4
 t28 := Tryz.underlying35
 a28 := Tryz.isAgg35
 z28 := Tryz.sizeOf35
 v28 := Tryz.zeroValue35 }
open Go.RowKit Go.Lib in
theorem Tryz.slices_Equal_int (b1 o1 n c b2 o2 m d : Nat) (xs ys : List Int) (w : World) (hx : n ≤ xs.length) (hy : m ≤ ys.length) (hbig : n ≤ 9223372036854775807) (hbig2 : m ≤ 9223372036854775807) (hc1 : ∀ j, j < xs.length → w.cell? ⟨b1, o1 + j, none⟩ = some (.int .i64 (xs.getD j 0))) (hc2 : ∀ j, j < ys.length → w.cell? ⟨b2, o2 + j, none⟩ = some (.int .i64 (ys.getD j 0))) :
  Calls Tryz.prog 51 #[.slice (some ⟨b1, o1, none⟩) n c, .slice (some ⟨b2, o2, none⟩) m d] w fun e w' => e = .returned (.bool (xs.take n == ys.take m)) ∧ ∃ q, w' = w.drewN q := Any.slices_Equal_int Tryz.lays111 b1 o1 n c b2 o2 m d xs ys w hx hy hbig hbig2 hc1 hc2
open Go.RowKit Go.Lib in
theorem Tryz.slices_Equal_int_empty (a1 a2 : Option Addr) (c m d : Nat) (w : World) (hbig2 : m ≤ 9223372036854775807) :
  Calls Tryz.prog 51 #[.slice a1 0 c, .slice a2 m d] w fun e w' => e = .returned (.bool (decide (m = 0))) ∧ w' = w := Any.slices_Equal_int_empty Tryz.lays111 a1 a2 c m d w hbig2
open Go.RowKit Go.Lib in
theorem Tryz.slices_Equal_int_lens (a1 a2 : Option Addr) (n c m d : Nat) (w : World) (hnm : n ≠ m) :
  Calls Tryz.prog 51 #[.slice a1 n c, .slice a2 m d] w fun e w' => e = .returned (.bool false) ∧ w' = w := Any.slices_Equal_int_lens Tryz.lays111 a1 a2 n c m d w hnm
end Go.Proofs

namespace Go.Proofs.YtdbgaccnejffpaaGreatDoor.Itoa
open Go.RowKit Go.Sort
end Go.Proofs.YtdbgaccnejffpaaGreatDoor.Itoa

namespace Go.Proofs.YtdbgaccnejffpaaGreatDoor.Ival
open Go.RowKit Go.Proofs.YtdbgaccnejffpaaGreatDoor.Itoa
end Go.Proofs.YtdbgaccnejffpaaGreatDoor.Ival

namespace Go.Proofs.YtdbgaccnejffpaaGreatDoor.Ival
open Go.RowKit
theorem progEndless (lo hi : Int) (w : World) :
  Calls Tryz.prog 80 #[span lo hi] w fun e w' => e = .returned (.bool (hi == -1)) ∧ Below w.heap.size w w' := by
 go_enter Tryz.func80, Tryz.ntmps80
 go_wp2
 go_ret
 exact ⟨rfl, (Below.refl _ _).alloc (Nat.le_refl _) _⟩
theorem progMay (lo hi : Int) (w : World) :
  Calls Tryz.prog 79 #[span lo hi] w fun e w' => e = .returned (.bool (mayS lo hi)) ∧ Below w.heap.size w w' := by
 have he := fun W => progEndless lo hi W
 rcases may_cases lo hi with ⟨h1, h⟩ | ⟨h1, h2, h⟩ | ⟨h1, h2, h3, h⟩ | ⟨h1, h2, h3, h4, h⟩ | ⟨h1, h2, h3, h4, h5, h⟩ | ⟨h1, h2, h3, h4, h5, h⟩
 case' inr.inr.inl =>
  subst h3
  have h3 : ((-1 : Int) == -1) = true := rfl
 case' inr.inr.inl | inr.inr.inr.inl | inr.inr.inr.inr.inl | inr.inr.inr.inr.inr =>
  rw [h3] at he
 all_goals
  rw [h]
  clear h
  have HE := Lib.hid he
  clear he
  go_enter Tryz.func79, Tryz.ntmps79
  go_wp2_with (go_at_call 80; refine (HE.out _).mono ?_; rintro e w' ⟨rfl, hb⟩; have hc0 := box0 hb; have hc1 := box1 hb)
  go_ret
  first
   | exact ⟨rfl, ((Below.refl _ _).alloc (Nat.le_refl _) _).trans (hb.mono (by simp))⟩
   | exact ⟨rfl, (Below.refl _ _).alloc (Nat.le_refl _) _⟩
end Go.Proofs.YtdbgaccnejffpaaGreatDoor.Ival

namespace Go.Proofs.YtdbgaccnejffpaaGreatDoor.Ival
open Go.RowKit Go.Proofs.YtdbgaccnejffpaaGreatDoor.Itoa
end Go.Proofs.YtdbgaccnejffpaaGreatDoor.Ival

namespace Go.Proofs.YtdbgaccnejffpaaGreatDoor.Ival
open Go.RowKit Go.Proofs.YtdbgaccnejffpaaGreatDoor.Itoa
theorem progHas (lo hi : Int) (d : Nat) (w : World) (_hd : d < 18446744073709551616) :
  Calls Tryz.prog 59 #[span lo hi, .int .u64 d] w fun e w' => e = .returned (.bool (hasS lo hi d)) ∧ Below w.heap.size w w' := by
 have hm := fun W => progMay lo hi W
 have he := fun W => progEndless lo hi W
 unfold hasS
 rcases may_ways lo hi with h | ⟨h, h1, h2, h3⟩ | ⟨h, h1, h0, h2, h3, h4⟩
 ·rw [h] at hm ⊢
  have HM := Lib.hid hm
  clear hm h he
  go_enter Tryz.func59, Tryz.ntmps59
  go_wp2_with (go_at_call 79; refine (HM.out _).mono ?_; rintro e w' ⟨rfl, hb⟩; have hc0 := box0 hb; have hc1 := box1 hb)
  go_ret
  exact ⟨rfl, ((Below.refl _ _).alloc (Nat.le_refl _) _).trans (hb.mono (by simp))⟩
 ·subst h1
  rw [h] at hm ⊢
  rw [show ((-1 : Int) == -1) = true from rfl] at he
  have HM := Lib.hid hm
  have HE := Lib.hid he
  have e1 : IntKind.u64.wrap lo = lo := by rw [IntKind.wrap_u64]; omega
  have HL := Lib.hid h3
  clear hm h he
  by_cases h4 : lo ≤ (d : Int)
  ·rw [show (true && decide (lo ≤ (d : Int) ∧ ((-1 : Int) = -1 ∨ (d : Int) ≤ -1))) = true by simp [h4]]
   go_enter Tryz.func59, Tryz.ntmps59
   go_wp2_with (first
    | (go_at_call 79; refine (HM.out _).mono ?_; rintro e w' ⟨rfl, hb⟩; have hc0 := box0 hb; have hc1 := box1 hb)
    | (go_at_call 80; refine (HE.out _).mono ?_; rintro e w2 ⟨rfl, hb2⟩; have hc2 := keep_cell hb2 hc0; have hc3 := keep_cell hb2 hc1))
   go_ret
   exact ⟨rfl, (((Below.refl _ _).alloc (Nat.le_refl _) _).trans (hb.mono (by simp))).trans (hb2.mono (by have := hb.size; simp at this; omega))⟩
  ·rw [show (true && decide (lo ≤ (d : Int) ∧ ((-1 : Int) = -1 ∨ (d : Int) ≤ -1))) = false by simp [h4]]
   go_enter Tryz.func59, Tryz.ntmps59
   go_wp2_with (go_at_call 79; refine (HM.out _).mono ?_; rintro e w' ⟨rfl, hb⟩; have hc0 := box0 hb; have hc1 := box1 hb)
   go_ret
   exact ⟨rfl, ((Below.refl _ _).alloc (Nat.le_refl _) _).trans (hb.mono (by simp))⟩
 ·rw [h] at hm ⊢
  rw [h1] at he
  have HM := Lib.hid hm
  have HE := Lib.hid he
  have e1 : IntKind.u64.wrap lo = lo := by rw [IntKind.wrap_u64]; omega
  have e2 : IntKind.u64.wrap hi = hi := by rw [IntKind.wrap_u64]; omega
  have HL := Lib.hid h0
  clear hm h h0 he
  by_cases h5 : lo ≤ (d : Int)
  ·have h7 : (true && decide (lo ≤ (d : Int) ∧ (hi = -1 ∨ (d : Int) ≤ hi))) = decide ((d : Int) ≤ hi) := by have := HL.out; simp [h5, this]
   rw [h7]
   clear h7
   go_enter Tryz.func59, Tryz.ntmps59
   go_wp2_with (first
    | (go_at_call 79; refine (HM.out _).mono ?_; rintro e w' ⟨rfl, hb⟩; have hc0 := box0 hb; have hc1 := box1 hb)
    | (go_at_call 80; refine (HE.out _).mono ?_; rintro e w2 ⟨rfl, hb2⟩; have hc2 := keep_cell hb2 hc0; have hc3 := keep_cell hb2 hc1))
   go_ret
   exact ⟨rfl, (((Below.refl _ _).alloc (Nat.le_refl _) _).trans (hb.mono (by simp))).trans (hb2.mono (by have := hb.size; simp at this; omega))⟩
  ·rw [show (true && decide (lo ≤ (d : Int) ∧ (hi = -1 ∨ (d : Int) ≤ hi))) = false by simp [h5]]
   go_enter Tryz.func59, Tryz.ntmps59
   go_wp2_with (go_at_call 79; refine (HM.out _).mono ?_; rintro e w' ⟨rfl, hb⟩; have hc0 := box0 hb; have hc1 := box1 hb)
   go_ret
   exact ⟨rfl, ((Below.refl _ _).alloc (Nat.le_refl _) _).trans (hb.mono (by simp))⟩
def lastS (lo hi : Int) : Int := if hi = -1 then lo else hi
theorem progLast (lo hi : Int) (w : World) :
  Calls Tryz.prog 81 #[span lo hi] w fun e w' => e = .returned (.int .i64 (lastS lo hi)) ∧ Below w.heap.size w w' := by
 have he := fun W => progEndless lo hi W
 unfold lastS
 by_cases h1 : hi = -1
 ·subst h1
  rw [if_pos rfl]
  rw [show ((-1 : Int) == -1) = true from rfl] at he
  have HE := Lib.hid he
  clear he
  go_enter Tryz.func81, Tryz.ntmps81
  go_wp2_with (go_at_call 80; refine (HE.out _).mono ?_; rintro e w' ⟨rfl, hb⟩; have hc0 := box0 hb; have hc1 := box1 hb)
  go_ret
  exact ⟨rfl, ((Below.refl _ _).alloc (Nat.le_refl _) _).trans (hb.mono (by simp))⟩
 ·rw [if_neg h1]
  rw [show (hi == -1) = false by simp [h1]] at he
  have HE := Lib.hid he
  clear he h1
  go_enter Tryz.func81, Tryz.ntmps81
  go_wp2_with (go_at_call 80; refine (HE.out _).mono ?_; rintro e w' ⟨rfl, hb⟩; have hc0 := box0 hb; have hc1 := box1 hb)
  go_ret
  exact ⟨rfl, ((Below.refl _ _).alloc (Nat.le_refl _) _).trans (hb.mono (by simp))⟩
theorem wide_last {lo hi : Int} (h : mayS lo hi = true) : wideS lo hi = lastS lo hi + 1 ∧ 0 ≤ lastS lo hi ∧ lastS lo hi ≤ 9999 := by
 obtain ⟨h1, h2, h3⟩ := may_parts h
 unfold wideS lastS
 rw [if_pos h]
 split <;> omega
theorem class_in' {lo hi : Int} {d : Nat} (h : mayS lo hi = true) (hd : (d : Int) ≤ lastS lo hi) : classS lo hi d = d := by
 unfold classS lastS at *
 rw [if_pos h]
 split at hd <;> rename_i h1
 ·rw [if_pos h1]; omega
 ·rw [if_neg h1, if_neg (by omega)]
theorem class_open {lo hi : Int} {d : Nat} (h : mayS lo hi = true) (hd : ¬ (d : Int) ≤ lastS lo hi) (h1 : hi = -1) : classS lo hi d = lo := by
 unfold classS lastS at *
 rw [if_pos h]
 rw [if_pos h1] at hd ⊢
 omega
theorem class_none {lo hi : Int} {d : Nat} (h : mayS lo hi = true) (hd : ¬ (d : Int) ≤ lastS lo hi) (h1 : ¬ hi = -1) : classS lo hi d = -1 := by
 unfold classS lastS at *
 rw [if_pos h]
 rw [if_neg h1] at hd ⊢
 rw [if_pos (by omega)]
theorem progClass (lo hi : Int) (d : Nat) (w : World) (_hd : d < 18446744073709551616) :
  Calls Tryz.prog 65 #[span lo hi, .int .u64 d] w fun e w' => e = .returned (.int .i64 (classS lo hi d)) ∧ Below w.heap.size w w' := by
 have hm := fun W => progMay lo hi W
 have hl := fun W => progLast lo hi W
 have he := fun W => progEndless lo hi W
 rcases Bool.eq_false_or_eq_true (mayS lo hi) with h | h
 ·obtain ⟨-, h2, h3⟩ := wide_last h
  by_cases h4 : (d : Int) ≤ lastS lo hi
  ·rw [class_in' h h4]
   rw [h] at hm
   obtain ⟨v, hv⟩ : ∃ v, lastS lo hi = v := ⟨_, rfl⟩
   rw [hv] at hl h2 h3 h4
   have HM := Lib.hid hm
   have HL := Lib.hid hl
   have e1 : IntKind.u64.wrap v = v := by rw [IntKind.wrap_u64]; omega
   have e2 : wrap64 (d : Int) = (d : Int) := IntWalk.wrap64_in _ (by omega)
   clear hm hl he h hv
   go_enter Tryz.func65, Tryz.ntmps65
   go_wp2_with (first
    | (go_at_call 79; refine (HM.out _).mono ?_; rintro e w' ⟨rfl, hb⟩; have hc0 := box0 hb; have hc1 := box1 hb)
    | (go_at_call 81; refine (HL.out _).mono ?_; rintro e w2 ⟨rfl, hb2⟩; have hc2 := keep_cell hb2 hc0; have hc3 := keep_cell hb2 hc1))
   go_ret
   exact ⟨rfl, (((Below.refl _ _).alloc (Nat.le_refl _) _).trans (hb.mono (by simp))).trans (hb2.mono (by have := hb.size; simp at this; omega))⟩
  ·obtain ⟨r, hr, h5⟩ : ∃ r, classS lo hi d = r ∧ ((hi == -1) = true ∧ r = lo ∨ (hi == -1) = false ∧ r = -1) := by
    by_cases h1 : hi = -1
    ·exact ⟨_, class_open h h4 h1, Or.inl ⟨by simp [h1], rfl⟩⟩
    ·exact ⟨_, class_none h h4 h1, Or.inr ⟨by simp [h1], rfl⟩⟩
   rw [hr]
   rw [h] at hm
   obtain ⟨v, hv⟩ : ∃ v, lastS lo hi = v := ⟨_, rfl⟩
   rw [hv] at hl h2 h3 h4
   have h6 : decide ((d : Int) ≤ v) = false := by simp; omega
   have e1 : IntKind.u64.wrap v = v := by rw [IntKind.wrap_u64]; omega
   have HM := Lib.hid hm
   have HL := Lib.hid hl
   rcases h5 with ⟨h5, h7⟩ | ⟨h5, h7⟩
   all_goals
    rw [h5] at he
    rw [h7]
    have HE := Lib.hid he
    clear hm hl he h hv h4 hr h5 h7 r
    go_enter Tryz.func65, Tryz.ntmps65
    go_wp2_with (first
     | (go_at_call 79; refine (HM.out _).mono ?_; rintro e w' ⟨rfl, hb⟩; have hc0 := box0 hb; have hc1 := box1 hb)
     | (go_at_call 81; refine (HL.out _).mono ?_; rintro e w2 ⟨rfl, hb2⟩; have hc2 := keep_cell hb2 hc0; have hc3 := keep_cell hb2 hc1)
     | (go_at_call 80; refine (HE.out _).mono ?_; rintro e w3 ⟨rfl, hb3⟩; have hc4 := keep_cell hb3 hc2; have hc5 := keep_cell hb3 hc3))
    go_ret
    exact ⟨rfl, ((((Below.refl _ _).alloc (Nat.le_refl _) _).trans (hb.mono (by simp))).trans (hb2.mono (by have := hb.size; simp at this; omega))).trans (hb3.mono (by have := hb.size; have := hb2.size; simp at *; omega))⟩
 ·rw [show classS lo hi d = -1 by unfold classS; rw [h]; rfl]
  rw [h] at hm
  have HM := Lib.hid hm
  clear hm h hl he
  go_enter Tryz.func65, Tryz.ntmps65
  go_wp2_with (go_at_call 79; refine (HM.out _).mono ?_; rintro e w' ⟨rfl, hb⟩; have hc0 := box0 hb; have hc1 := box1 hb)
  go_ret
  exact ⟨rfl, ((Below.refl _ _).alloc (Nat.le_refl _) _).trans (hb.mono (by simp))⟩
end Go.Proofs.YtdbgaccnejffpaaGreatDoor.Ival

namespace Go.Proofs.YtdbgaccnejffpaaGreatDoor.Trace
open Go.RowKit Go.ChangeShapes Go.WideShapes Go.Deep Go.Proofs.YtdbgaccnejffpaaGreatDoor.Ints Go.Proofs.YtdbgaccnejffpaaGreatDoor.Mem
structure Ev where
 time : Int
 ids : List Int
deriving DecidableEq
def EvAt (S : Nat → Prop) (w : World) (b o : Nat) (e : Ev) : Prop :=
 w.cell? ⟨b, o, none⟩ = some (.int .u64 e.time) ∧ (Lit.int .u64 e.time).wf = true ∧
  ∃ (K : Option Addr) (c : Nat), w.cell? ⟨b, o + 1, none⟩ = some (.slice K e.ids.length c) ∧ Rd .i64 w K e.ids.length e.ids ∧ e.ids.length ≤ c ∧ c ≤ maxLen ∧ S b ∧ (∀ a, K = some a → 0 < e.ids.length → S a.block)
theorem EvAt.keep {S : Nat → Prop} {w w' : World} {b o : Nat} {e : Ev} (h : EvAt S w b o e) (hk : ∀ p u, S p.block → w.cell? p = some u → w'.cell? p = some u) : EvAt S w' b o e := by
 obtain ⟨h1, h5, K, c, h9, h10, h11, h12, h13, h14⟩ := h
 refine ⟨hk _ _ h13 h1, h5, K, c, hk _ _ h13 h9, ⟨h10.1, h10.2.1, fun h0 => ?_⟩, h11, h12, h13, h14⟩
 obtain ⟨b', off, e', hc⟩ := h10.2.2 h0
 exact ⟨b', off, e', fun j hj => hk ⟨b', off + j, none⟩ _ (h14 ⟨b', off, none⟩ e' h0) (hc j hj)⟩
theorem EvAt.mono {S S' : Nat → Prop} {w : World} {b o : Nat} {e : Ev} (h : EvAt S w b o e) (hs : ∀ b, b < w.heap.size → S b → S' b) : EvAt S' w b o e := by
 obtain ⟨h1, h5, K, c, h9, h10, h11, h12, h13, h14⟩ := h
 refine ⟨h1, h5, K, c, h9, h10, h11, h12, hs _ (World.block_lt_of_cell? w _ h1) h13, fun a e1 h0 => ?_⟩
 obtain ⟨b', off, e', hc⟩ := h10.2.2 h0
 subst e1
 injection e' with e'
 subst e'
 exact hs _ (World.block_lt_of_cell? w _ (hc 0 h0)) (h14 _ rfl h0)
def Evs (S : Nat → Prop) (w : World) (A : Option Addr) (l : List Ev) : Prop :=
 0 < l.length → ∃ b off, A = some ⟨b, off, none⟩ ∧ ∀ (j : Nat) (e : Ev), l[j]? = some e → EvAt S w b (off + 2 * j) e
theorem Evs.keep {S : Nat → Prop} {w w' : World} {A : Option Addr} {l : List Ev} (h : Evs S w A l) (hk : ∀ p u, S p.block → w.cell? p = some u → w'.cell? p = some u) : Evs S w' A l := fun h0 => by
 obtain ⟨b, off, h1, h2⟩ := h h0
 exact ⟨b, off, h1, fun j n hn => (h2 j n hn).keep hk⟩
theorem Evs.mono {S S' : Nat → Prop} {w : World} {A : Option Addr} {l : List Ev} (h : Evs S w A l) (hs : ∀ b, b < w.heap.size → S b → S' b) : Evs S' w A l := fun h0 => by
 obtain ⟨b, off, h1, h2⟩ := h h0
 exact ⟨b, off, h1, fun j n hn => (h2 j n hn).mono hs⟩
theorem Evs.any {S : Nat → Prop} {w : World} {A : Option Addr} {l : List Ev} (h : Evs S w A l) : Evs Any w A l := h.mono fun _ _ _ => trivial
theorem Evs.below {S : Nat → Prop} {w w' : World} {A : Option Addr} {l : List Ev} (h : Evs S w A l) (hb : Below w.heap.size w w') : Evs S w' A l :=
 h.keep fun p _ _ hp => (hb.cell (World.block_lt_of_cell? w p hp)).trans hp
section
variable {H : Type} {enc : TypeId × Value → H} {w : World}
def EvOk (w : World) (e : Ev) (K : Option Addr) (c : Nat) : Prop :=
 (Lit.int .u64 e.time).wf = true ∧ Rd .i64 w K e.ids.length e.ids ∧ e.ids.length ≤ c ∧ c ≤ maxLen
end
def noEv : Ev := ⟨0, []⟩
end Go.Proofs.YtdbgaccnejffpaaGreatDoor.Trace

namespace Go.Proofs.YtdbgaccnejffpaaGreatDoor.Mem
open Go.RowKit Go.ChangeShapes Go.WideShapes Go.Deep Go.Proofs.YtdbgaccnejffpaaGreatDoor.Ints
section
variable {H : Type} {enc : TypeId × Value → H} {w : World}
end
end Go.Proofs.YtdbgaccnejffpaaGreatDoor.Mem
