/-
  DERIVED: THE SHELF's CONTRACTS AT THIS DUMP, IN PLAIN WORDS (tools/lay-plain.mjs out of 'TryShelf.lean', which tools/lay-shelf.mjs wrote): THE SAME DECLARATIONS UNDER THE SAME NAMES: 'import', 'namespace', 'open', 'def', 'theorem' AND NOTHING ELSE: no command of the shelf's: FOR A HAND-IN. Each laying: the table of numbers ('.._ren') and one theorem, a field a fact of the dump's own or the kernel's comparison; each contract: ONE APPLICATION.
  strconv.Itoa, for every int, by the shelf's contract; its table in its variable. By an AI agent.
  The walk of the reference's SpanText. By an AI agent.
  The walks of the landed ival's endless and May. By an AI agent.
  The walk of the landed ival's Text. By an AI agent.
  The walks of package ival. By an AI agent.
  Events in memory: an event by value, and its two cells; what an event that came in reads as. By an AI agent.
  Lists of strings that came in. By an AI agent.
  Traces in memory: events and rows of events of the call's own; what events that came in read as. By an AI agent.
-/
import Derived.Shelf.Slices.Turned
import Derived.Shelf.Slices.Equal
import Derived.Shelf.Slices.Empties2
import Derived.Test.YtdbgaccnejffpaaProg
import Derived.Test.YtdbgaccnejffpaaChecked
import Derived.Lib.AppendIntMem
import Derived.Lib.ItoaLen
import Derived.Below
import Derived.WalkKit
import Derived.Test.YtdbgaccnejffpaaGSatShift3
import Derived.RegionTactic
import Derived.Deep.RegionWith
import Derived.BigRegion
import Derived.Test.YtdbgaccnejffpaaGSatShift2
namespace Go.Proofs
open Go.Shelf
open Go.Lib in
open Go.Lib in
def Try.lays107_ren : Go.Shelf.Ren := ⟨fun | 107 => 54 | 108 => 76 | n => n, fun | 28 => 32 | 3 => 3 | 4 => 4 | 0 => 0 | n => n, fun | n => n⟩
theorem Try.lays107 : Go.Proofs.Lays.n107 Try.prog Try.lays107_ren := {
 mixed := by kernel_rfl
 f107 := Try.func54.trans (congrArg some (by kernel_rfl))
 f108 := Try.func76.trans (congrArg some (by kernel_rfl))
 t0 := Try.underlying0
 a0 := Try.isAgg0
 z0 := Try.sizeOf0
 v0 := Try.zeroValue0
 t3 := Try.underlying3
 a3 := Try.isAgg3
 z3 := Try.sizeOf3
 v3 := Try.zeroValue3
 t4 := Try.underlying4
 a4 := Try.isAgg4
 z4 := Try.sizeOf4
 v4 := Try.zeroValue4
 t28 := Try.underlying32
 a28 := Try.isAgg32
 z28 := Try.sizeOf32
 v28 := Try.zeroValue32 }
open Go.Lib in
theorem Try.slices_Contains_int (b off n c : Nat) (zs : List Int) (x : Int) (w : World) (hz : n ≤ zs.length) (hbig : n ≤ 9223372036854775807) (hc : ∀ j, j < zs.length → w.cell? ⟨b, off + j, none⟩ = some (.int .i64 (zs.getD j 0))) :
  Calls Try.prog 54 #[.slice (some ⟨b, off, none⟩) n c, .int .i64 x] w fun e w' => e = .returned (.bool ((zs.take n).contains x)) ∧ w' = w := Any.slices_Contains_int Try.lays107 b off n c zs x w hz hbig hc
open Go.Lib in
theorem Try.slices_Contains_int_empty (a : Option Addr) (c : Nat) (x : Int) (w : World) :
  Calls Try.prog 54 #[.slice a 0 c, .int .i64 x] w fun e w' => e = .returned (.bool false) ∧ w' = w := Any.slices_Contains_int_empty Try.lays107 a c x w
def Try.lays109_ren : Go.Shelf.Ren := ⟨fun | 109 => 52 | n => n, fun | 31 => 24 | 9 => 9 | 3 => 3 | 0 => 0 | 4 => 4 | n => n, fun | n => n⟩
theorem Try.lays109 : Go.Proofs.Lays.n109 Try.prog Try.lays109_ren := {
 mixed := by kernel_rfl
 f109 := Try.func52.trans (congrArg some (by kernel_rfl))
 t0 := Try.underlying0
 a0 := Try.isAgg0
 z0 := Try.sizeOf0
 v0 := Try.zeroValue0
 t3 := Try.underlying3
 a3 := Try.isAgg3
 z3 := Try.sizeOf3
 v3 := Try.zeroValue3
 t4 := Try.underlying4
 a4 := Try.isAgg4
 z4 := Try.sizeOf4
 v4 := Try.zeroValue4
 t9 := Try.underlying9
 a9 := Try.isAgg9
 z9 := Try.sizeOf9
 v9 := Try.zeroValue9
 t31 := Try.underlying24
 a31 := Try.isAgg24
 z31 := Try.sizeOf24
 v31 := Try.zeroValue24 }
open Go.Lib in
theorem Try.slices_Index_string (b off n c : Nat) (zs : List ByteArray) (x : ByteArray) (w : World) (hz : n ≤ zs.length) (hbig : n ≤ 9223372036854775807) (hc : ∀ j, j < zs.length → w.cell? ⟨b, off + j, none⟩ = some (.string (zs.getD j ByteArray.empty))) :
  Calls Try.prog 52 #[.slice (some ⟨b, off, none⟩) n c, .string x] w fun e w' => e = .returned (.int .i64 (Lib.idxOfS (zs.take n) x)) ∧ w' = w := Any.slices_Index_string Try.lays109 b off n c zs x w hz hbig hc
open Go.Lib in
theorem Try.slices_Index_string_empty (a : Option Addr) (c : Nat) (x : ByteArray) (w : World) :
  Calls Try.prog 52 #[.slice a 0 c, .string x] w fun e w' => e = .returned (.int .i64 (Lib.idxOfS [] x)) ∧ w' = w := Any.slices_Index_string_empty Try.lays109 a c x w
def Try.lays110_ren : Go.Shelf.Ren := ⟨fun | 110 => 47 | 109 => 52 | n => n, fun | 31 => 24 | 9 => 9 | 4 => 4 | 3 => 3 | 0 => 0 | n => n, fun | n => n⟩
theorem Try.lays110 : Go.Proofs.Lays.n110 Try.prog Try.lays110_ren := {
 mixed := by kernel_rfl
 f109 := Try.func52.trans (congrArg some (by kernel_rfl))
 f110 := Try.func47.trans (congrArg some (by kernel_rfl))
 t0 := Try.underlying0
 a0 := Try.isAgg0
 z0 := Try.sizeOf0
 v0 := Try.zeroValue0
 t3 := Try.underlying3
 a3 := Try.isAgg3
 z3 := Try.sizeOf3
 v3 := Try.zeroValue3
 t4 := Try.underlying4
 a4 := Try.isAgg4
 z4 := Try.sizeOf4
 v4 := Try.zeroValue4
 t9 := Try.underlying9
 a9 := Try.isAgg9
 z9 := Try.sizeOf9
 v9 := Try.zeroValue9
 t31 := Try.underlying24
 a31 := Try.isAgg24
 z31 := Try.sizeOf24
 v31 := Try.zeroValue24 }
open Go.Lib in
theorem Try.slices_Contains_string (b off n c : Nat) (zs : List ByteArray) (x : ByteArray) (w : World) (hz : n ≤ zs.length) (hbig : n ≤ 9223372036854775807) (hc : ∀ j, j < zs.length → w.cell? ⟨b, off + j, none⟩ = some (.string (zs.getD j ByteArray.empty))) :
  Calls Try.prog 47 #[.slice (some ⟨b, off, none⟩) n c, .string x] w fun e w' => e = .returned (.bool (Lib.containsS (zs.take n) x)) ∧ w' = w := Any.slices_Contains_string Try.lays110 b off n c zs x w hz hbig hc
open Go.Lib in
theorem Try.slices_Contains_string_empty (a : Option Addr) (c : Nat) (x : ByteArray) (w : World) :
  Calls Try.prog 47 #[.slice a 0 c, .string x] w fun e w' => e = .returned (.bool false) ∧ w' = w := Any.slices_Contains_string_empty Try.lays110 a c x w
def Try.lays111_ren : Go.Shelf.Ren := ⟨fun | 111 => 49 | n => n, fun | 28 => 32 | 3 => 3 | 4 => 4 | 0 => 0 | n => n, fun | n => n⟩
theorem Try.lays111 : Go.Proofs.Lays.n111 Try.prog Try.lays111_ren := {
 mixed := by kernel_rfl
 f111 := Try.func49.trans (congrArg some (by kernel_rfl))
 t0 := Try.underlying0
 a0 := Try.isAgg0
 z0 := Try.sizeOf0
 v0 := Try.zeroValue0
 t3 := Try.underlying3
 a3 := Try.isAgg3
 z3 := Try.sizeOf3
 v3 := Try.zeroValue3
 t4 := Try.underlying4
 a4 := Try.isAgg4
 z4 := Try.sizeOf4
 v4 := Try.zeroValue4
 t28 := Try.underlying32
 a28 := Try.isAgg32
 z28 := Try.sizeOf32
 v28 := Try.zeroValue32 }
open Go.RowKit Go.Lib in
theorem Try.slices_Equal_int (b1 o1 n c b2 o2 m d : Nat) (xs ys : List Int) (w : World) (hx : n ≤ xs.length) (hy : m ≤ ys.length) (hbig : n ≤ 9223372036854775807) (hbig2 : m ≤ 9223372036854775807) (hc1 : ∀ j, j < xs.length → w.cell? ⟨b1, o1 + j, none⟩ = some (.int .i64 (xs.getD j 0))) (hc2 : ∀ j, j < ys.length → w.cell? ⟨b2, o2 + j, none⟩ = some (.int .i64 (ys.getD j 0))) :
  Calls Try.prog 49 #[.slice (some ⟨b1, o1, none⟩) n c, .slice (some ⟨b2, o2, none⟩) m d] w fun e w' => e = .returned (.bool (xs.take n == ys.take m)) ∧ ∃ q, w' = w.drewN q := Any.slices_Equal_int Try.lays111 b1 o1 n c b2 o2 m d xs ys w hx hy hbig hbig2 hc1 hc2
open Go.RowKit Go.Lib in
theorem Try.slices_Equal_int_empty (a1 a2 : Option Addr) (c m d : Nat) (w : World) (hbig2 : m ≤ 9223372036854775807) :
  Calls Try.prog 49 #[.slice a1 0 c, .slice a2 m d] w fun e w' => e = .returned (.bool (decide (m = 0))) ∧ w' = w := Any.slices_Equal_int_empty Try.lays111 a1 a2 c m d w hbig2
open Go.RowKit Go.Lib in
theorem Try.slices_Equal_int_lens (a1 a2 : Option Addr) (n c m d : Nat) (w : World) (hnm : n ≠ m) :
  Calls Try.prog 49 #[.slice a1 n c, .slice a2 m d] w fun e w' => e = .returned (.bool false) ∧ w' = w := Any.slices_Equal_int_lens Try.lays111 a1 a2 n c m d w hnm
end Go.Proofs

namespace Go.Proofs.Ytdbgaccnejffpaa.Itoa
open Go.RowKit Go.Sort
end Go.Proofs.Ytdbgaccnejffpaa.Itoa

namespace Go.Proofs.Ytdbgaccnejffpaa.Ival
open Go.RowKit Go.Proofs.Ytdbgaccnejffpaa.Itoa
end Go.Proofs.Ytdbgaccnejffpaa.Ival

namespace Go.Proofs.Ytdbgaccnejffpaa.Ival
open Go.RowKit
theorem progEndless (lo hi : Int) (w : World) :
  Calls Try.prog 78 #[span lo hi] w fun e w' => e = .returned (.bool (hi == -1)) ∧ Below w.heap.size w w' := by
 go_enter Try.func78, Try.ntmps78
 go_wp2
 go_ret
 exact ⟨rfl, (Below.refl _ _).alloc (Nat.le_refl _) _⟩
theorem progMay (lo hi : Int) (w : World) :
  Calls Try.prog 77 #[span lo hi] w fun e w' => e = .returned (.bool (mayS lo hi)) ∧ Below w.heap.size w w' := by
 have he := fun W => progEndless lo hi W
 rcases may_cases lo hi with ⟨h1, h⟩ | ⟨h1, h2, h⟩ | ⟨h1, h2, h3, h⟩ | ⟨h1, h2, h3, h4, h⟩ | ⟨h1, h2, h3, h4, h5, h⟩ | ⟨h1, h2, h3, h4, h5, h⟩
 case' inr.inr.inl =>
  subst h3
  have h3 : ((-1 : Int) == -1) = true := rfl
 case' inr.inr.inl | inr.inr.inr.inl | inr.inr.inr.inr.inl | inr.inr.inr.inr.inr =>
  rw [h3] at he
 all_goals
  rw [h]
  clear h
  have HE := Lib.hid he
  clear he
  go_enter Try.func77, Try.ntmps77
  go_wp2_with (go_at_call 78; refine (HE.out _).mono ?_; rintro e w' ⟨rfl, hb⟩; have hc0 := box0 hb; have hc1 := box1 hb)
  go_ret
  first
   | exact ⟨rfl, ((Below.refl _ _).alloc (Nat.le_refl _) _).trans (hb.mono (by simp))⟩
   | exact ⟨rfl, (Below.refl _ _).alloc (Nat.le_refl _) _⟩
end Go.Proofs.Ytdbgaccnejffpaa.Ival

namespace Go.Proofs.Ytdbgaccnejffpaa.Ival
open Go.RowKit Go.Proofs.Ytdbgaccnejffpaa.Itoa
end Go.Proofs.Ytdbgaccnejffpaa.Ival

namespace Go.Proofs.Ytdbgaccnejffpaa.Ival
open Go.RowKit Go.Proofs.Ytdbgaccnejffpaa.Itoa
theorem progHas (lo hi : Int) (d : Nat) (w : World) (_hd : d < 18446744073709551616) :
  Calls Try.prog 57 #[span lo hi, .int .u64 d] w fun e w' => e = .returned (.bool (hasS lo hi d)) ∧ Below w.heap.size w w' := by
 have hm := fun W => progMay lo hi W
 have he := fun W => progEndless lo hi W
 unfold hasS
 rcases may_ways lo hi with h | ⟨h, h1, h2, h3⟩ | ⟨h, h1, h0, h2, h3, h4⟩
 ·rw [h] at hm ⊢
  have HM := Lib.hid hm
  clear hm h he
  go_enter Try.func57, Try.ntmps57
  go_wp2_with (go_at_call 77; refine (HM.out _).mono ?_; rintro e w' ⟨rfl, hb⟩; have hc0 := box0 hb; have hc1 := box1 hb)
  go_ret
  exact ⟨rfl, ((Below.refl _ _).alloc (Nat.le_refl _) _).trans (hb.mono (by simp))⟩
 ·subst h1
  rw [h] at hm ⊢
  rw [show ((-1 : Int) == -1) = true from rfl] at he
  have HM := Lib.hid hm
  have HE := Lib.hid he
  have e1 : IntKind.u64.wrap lo = lo := by rw [IntKind.wrap_u64]; omega
  have HL := Lib.hid h3
  clear hm h he
  by_cases h4 : lo ≤ (d : Int)
  ·rw [show (true && decide (lo ≤ (d : Int) ∧ ((-1 : Int) = -1 ∨ (d : Int) ≤ -1))) = true by simp [h4]]
   go_enter Try.func57, Try.ntmps57
   go_wp2_with (first
    | (go_at_call 77; refine (HM.out _).mono ?_; rintro e w' ⟨rfl, hb⟩; have hc0 := box0 hb; have hc1 := box1 hb)
    | (go_at_call 78; refine (HE.out _).mono ?_; rintro e w2 ⟨rfl, hb2⟩; have hc2 := keep_cell hb2 hc0; have hc3 := keep_cell hb2 hc1))
   go_ret
   exact ⟨rfl, (((Below.refl _ _).alloc (Nat.le_refl _) _).trans (hb.mono (by simp))).trans (hb2.mono (by have := hb.size; simp at this; omega))⟩
  ·rw [show (true && decide (lo ≤ (d : Int) ∧ ((-1 : Int) = -1 ∨ (d : Int) ≤ -1))) = false by simp [h4]]
   go_enter Try.func57, Try.ntmps57
   go_wp2_with (go_at_call 77; refine (HM.out _).mono ?_; rintro e w' ⟨rfl, hb⟩; have hc0 := box0 hb; have hc1 := box1 hb)
   go_ret
   exact ⟨rfl, ((Below.refl _ _).alloc (Nat.le_refl _) _).trans (hb.mono (by simp))⟩
 ·rw [h] at hm ⊢
  rw [h1] at he
  have HM := Lib.hid hm
  have HE := Lib.hid he
  have e1 : IntKind.u64.wrap lo = lo := by rw [IntKind.wrap_u64]; omega
  have e2 : IntKind.u64.wrap hi = hi := by rw [IntKind.wrap_u64]; omega
  have HL := Lib.hid h0
  clear hm h h0 he
  by_cases h5 : lo ≤ (d : Int)
  ·have h7 : (true && decide (lo ≤ (d : Int) ∧ (hi = -1 ∨ (d : Int) ≤ hi))) = decide ((d : Int) ≤ hi) := by have := HL.out; simp [h5, this]
   rw [h7]
   clear h7
   go_enter Try.func57, Try.ntmps57
   go_wp2_with (first
    | (go_at_call 77; refine (HM.out _).mono ?_; rintro e w' ⟨rfl, hb⟩; have hc0 := box0 hb; have hc1 := box1 hb)
    | (go_at_call 78; refine (HE.out _).mono ?_; rintro e w2 ⟨rfl, hb2⟩; have hc2 := keep_cell hb2 hc0; have hc3 := keep_cell hb2 hc1))
   go_ret
   exact ⟨rfl, (((Below.refl _ _).alloc (Nat.le_refl _) _).trans (hb.mono (by simp))).trans (hb2.mono (by have := hb.size; simp at this; omega))⟩
  ·rw [show (true && decide (lo ≤ (d : Int) ∧ (hi = -1 ∨ (d : Int) ≤ hi))) = false by simp [h5]]
   go_enter Try.func57, Try.ntmps57
   go_wp2_with (go_at_call 77; refine (HM.out _).mono ?_; rintro e w' ⟨rfl, hb⟩; have hc0 := box0 hb; have hc1 := box1 hb)
   go_ret
   exact ⟨rfl, ((Below.refl _ _).alloc (Nat.le_refl _) _).trans (hb.mono (by simp))⟩
def lastS (lo hi : Int) : Int := if hi = -1 then lo else hi
theorem progLast (lo hi : Int) (w : World) :
  Calls Try.prog 79 #[span lo hi] w fun e w' => e = .returned (.int .i64 (lastS lo hi)) ∧ Below w.heap.size w w' := by
 have he := fun W => progEndless lo hi W
 unfold lastS
 by_cases h1 : hi = -1
 ·subst h1
  rw [if_pos rfl]
  rw [show ((-1 : Int) == -1) = true from rfl] at he
  have HE := Lib.hid he
  clear he
  go_enter Try.func79, Try.ntmps79
  go_wp2_with (go_at_call 78; refine (HE.out _).mono ?_; rintro e w' ⟨rfl, hb⟩; have hc0 := box0 hb; have hc1 := box1 hb)
  go_ret
  exact ⟨rfl, ((Below.refl _ _).alloc (Nat.le_refl _) _).trans (hb.mono (by simp))⟩
 ·rw [if_neg h1]
  rw [show (hi == -1) = false by simp [h1]] at he
  have HE := Lib.hid he
  clear he h1
  go_enter Try.func79, Try.ntmps79
  go_wp2_with (go_at_call 78; refine (HE.out _).mono ?_; rintro e w' ⟨rfl, hb⟩; have hc0 := box0 hb; have hc1 := box1 hb)
  go_ret
  exact ⟨rfl, ((Below.refl _ _).alloc (Nat.le_refl _) _).trans (hb.mono (by simp))⟩
theorem wide_last {lo hi : Int} (h : mayS lo hi = true) : wideS lo hi = lastS lo hi + 1 ∧ 0 ≤ lastS lo hi ∧ lastS lo hi ≤ 9999 := by
 obtain ⟨h1, h2, h3⟩ := may_parts h
 unfold wideS lastS
 rw [if_pos h]
 split <;> omega
theorem class_in' {lo hi : Int} {d : Nat} (h : mayS lo hi = true) (hd : (d : Int) ≤ lastS lo hi) : classS lo hi d = d := by
 unfold classS lastS at *
 rw [if_pos h]
 split at hd <;> rename_i h1
 ·rw [if_pos h1]; omega
 ·rw [if_neg h1, if_neg (by omega)]
theorem class_open {lo hi : Int} {d : Nat} (h : mayS lo hi = true) (hd : ¬ (d : Int) ≤ lastS lo hi) (h1 : hi = -1) : classS lo hi d = lo := by
 unfold classS lastS at *
 rw [if_pos h]
 rw [if_pos h1] at hd ⊢
 omega
theorem class_none {lo hi : Int} {d : Nat} (h : mayS lo hi = true) (hd : ¬ (d : Int) ≤ lastS lo hi) (h1 : ¬ hi = -1) : classS lo hi d = -1 := by
 unfold classS lastS at *
 rw [if_pos h]
 rw [if_neg h1] at hd ⊢
 rw [if_pos (by omega)]
theorem progClass (lo hi : Int) (d : Nat) (w : World) (_hd : d < 18446744073709551616) :
  Calls Try.prog 63 #[span lo hi, .int .u64 d] w fun e w' => e = .returned (.int .i64 (classS lo hi d)) ∧ Below w.heap.size w w' := by
 have hm := fun W => progMay lo hi W
 have hl := fun W => progLast lo hi W
 have he := fun W => progEndless lo hi W
 rcases Bool.eq_false_or_eq_true (mayS lo hi) with h | h
 ·obtain ⟨-, h2, h3⟩ := wide_last h
  by_cases h4 : (d : Int) ≤ lastS lo hi
  ·rw [class_in' h h4]
   rw [h] at hm
   obtain ⟨v, hv⟩ : ∃ v, lastS lo hi = v := ⟨_, rfl⟩
   rw [hv] at hl h2 h3 h4
   have HM := Lib.hid hm
   have HL := Lib.hid hl
   have e1 : IntKind.u64.wrap v = v := by rw [IntKind.wrap_u64]; omega
   have e2 : wrap64 (d : Int) = (d : Int) := IntWalk.wrap64_in _ (by omega)
   clear hm hl he h hv
   go_enter Try.func63, Try.ntmps63
   go_wp2_with (first
    | (go_at_call 77; refine (HM.out _).mono ?_; rintro e w' ⟨rfl, hb⟩; have hc0 := box0 hb; have hc1 := box1 hb)
    | (go_at_call 79; refine (HL.out _).mono ?_; rintro e w2 ⟨rfl, hb2⟩; have hc2 := keep_cell hb2 hc0; have hc3 := keep_cell hb2 hc1))
   go_ret
   exact ⟨rfl, (((Below.refl _ _).alloc (Nat.le_refl _) _).trans (hb.mono (by simp))).trans (hb2.mono (by have := hb.size; simp at this; omega))⟩
  ·obtain ⟨r, hr, h5⟩ : ∃ r, classS lo hi d = r ∧ ((hi == -1) = true ∧ r = lo ∨ (hi == -1) = false ∧ r = -1) := by
    by_cases h1 : hi = -1
    ·exact ⟨_, class_open h h4 h1, Or.inl ⟨by simp [h1], rfl⟩⟩
    ·exact ⟨_, class_none h h4 h1, Or.inr ⟨by simp [h1], rfl⟩⟩
   rw [hr]
   rw [h] at hm
   obtain ⟨v, hv⟩ : ∃ v, lastS lo hi = v := ⟨_, rfl⟩
   rw [hv] at hl h2 h3 h4
   have h6 : decide ((d : Int) ≤ v) = false := by simp; omega
   have e1 : IntKind.u64.wrap v = v := by rw [IntKind.wrap_u64]; omega
   have HM := Lib.hid hm
   have HL := Lib.hid hl
   rcases h5 with ⟨h5, h7⟩ | ⟨h5, h7⟩
   all_goals
    rw [h5] at he
    rw [h7]
    have HE := Lib.hid he
    clear hm hl he h hv h4 hr h5 h7 r
    go_enter Try.func63, Try.ntmps63
    go_wp2_with (first
     | (go_at_call 77; refine (HM.out _).mono ?_; rintro e w' ⟨rfl, hb⟩; have hc0 := box0 hb; have hc1 := box1 hb)
     | (go_at_call 79; refine (HL.out _).mono ?_; rintro e w2 ⟨rfl, hb2⟩; have hc2 := keep_cell hb2 hc0; have hc3 := keep_cell hb2 hc1)
     | (go_at_call 78; refine (HE.out _).mono ?_; rintro e w3 ⟨rfl, hb3⟩; have hc4 := keep_cell hb3 hc2; have hc5 := keep_cell hb3 hc3))
    go_ret
    exact ⟨rfl, ((((Below.refl _ _).alloc (Nat.le_refl _) _).trans (hb.mono (by simp))).trans (hb2.mono (by have := hb.size; simp at this; omega))).trans (hb3.mono (by have := hb.size; have := hb2.size; simp at *; omega))⟩
 ·rw [show classS lo hi d = -1 by unfold classS; rw [h]; rfl]
  rw [h] at hm
  have HM := Lib.hid hm
  clear hm h hl he
  go_enter Try.func63, Try.ntmps63
  go_wp2_with (go_at_call 77; refine (HM.out _).mono ?_; rintro e w' ⟨rfl, hb⟩; have hc0 := box0 hb; have hc1 := box1 hb)
  go_ret
  exact ⟨rfl, ((Below.refl _ _).alloc (Nat.le_refl _) _).trans (hb.mono (by simp))⟩
end Go.Proofs.Ytdbgaccnejffpaa.Ival

namespace Go.Proofs.Ytdbgaccnejffpaa.Trace
open Go.RowKit Go.ChangeShapes Go.WideShapes Go.Deep Go.Proofs.Ytdbgaccnejffpaa.Ints Go.Proofs.Ytdbgaccnejffpaa.Mem
structure Ev where
 time : Int
 ids : List Int
deriving DecidableEq
def EvAt (S : Nat → Prop) (w : World) (b o : Nat) (e : Ev) : Prop :=
 w.cell? ⟨b, o, none⟩ = some (.int .u64 e.time) ∧ (Lit.int .u64 e.time).wf = true ∧
  ∃ (K : Option Addr) (c : Nat), w.cell? ⟨b, o + 1, none⟩ = some (.slice K e.ids.length c) ∧ Rd .i64 w K e.ids.length e.ids ∧ e.ids.length ≤ c ∧ c ≤ maxLen ∧ S b ∧ (∀ a, K = some a → 0 < e.ids.length → S a.block)
theorem EvAt.keep {S : Nat → Prop} {w w' : World} {b o : Nat} {e : Ev} (h : EvAt S w b o e) (hk : ∀ p u, S p.block → w.cell? p = some u → w'.cell? p = some u) : EvAt S w' b o e := by
 obtain ⟨h1, h5, K, c, h9, h10, h11, h12, h13, h14⟩ := h
 refine ⟨hk _ _ h13 h1, h5, K, c, hk _ _ h13 h9, ⟨h10.1, h10.2.1, fun h0 => ?_⟩, h11, h12, h13, h14⟩
 obtain ⟨b', off, e', hc⟩ := h10.2.2 h0
 exact ⟨b', off, e', fun j hj => hk ⟨b', off + j, none⟩ _ (h14 ⟨b', off, none⟩ e' h0) (hc j hj)⟩
theorem EvAt.mono {S S' : Nat → Prop} {w : World} {b o : Nat} {e : Ev} (h : EvAt S w b o e) (hs : ∀ b, b < w.heap.size → S b → S' b) : EvAt S' w b o e := by
 obtain ⟨h1, h5, K, c, h9, h10, h11, h12, h13, h14⟩ := h
 refine ⟨h1, h5, K, c, h9, h10, h11, h12, hs _ (World.block_lt_of_cell? w _ h1) h13, fun a e1 h0 => ?_⟩
 obtain ⟨b', off, e', hc⟩ := h10.2.2 h0
 subst e1
 injection e' with e'
 subst e'
 exact hs _ (World.block_lt_of_cell? w _ (hc 0 h0)) (h14 _ rfl h0)
def Evs (S : Nat → Prop) (w : World) (A : Option Addr) (l : List Ev) : Prop :=
 0 < l.length → ∃ b off, A = some ⟨b, off, none⟩ ∧ ∀ (j : Nat) (e : Ev), l[j]? = some e → EvAt S w b (off + 2 * j) e
theorem Evs.keep {S : Nat → Prop} {w w' : World} {A : Option Addr} {l : List Ev} (h : Evs S w A l) (hk : ∀ p u, S p.block → w.cell? p = some u → w'.cell? p = some u) : Evs S w' A l := fun h0 => by
 obtain ⟨b, off, h1, h2⟩ := h h0
 exact ⟨b, off, h1, fun j n hn => (h2 j n hn).keep hk⟩
theorem Evs.mono {S S' : Nat → Prop} {w : World} {A : Option Addr} {l : List Ev} (h : Evs S w A l) (hs : ∀ b, b < w.heap.size → S b → S' b) : Evs S' w A l := fun h0 => by
 obtain ⟨b, off, h1, h2⟩ := h h0
 exact ⟨b, off, h1, fun j n hn => (h2 j n hn).mono hs⟩
theorem Evs.any {S : Nat → Prop} {w : World} {A : Option Addr} {l : List Ev} (h : Evs S w A l) : Evs Any w A l := h.mono fun _ _ _ => trivial
theorem Evs.below {S : Nat → Prop} {w w' : World} {A : Option Addr} {l : List Ev} (h : Evs S w A l) (hb : Below w.heap.size w w') : Evs S w' A l :=
 h.keep fun p _ _ hp => (hb.cell (World.block_lt_of_cell? w p hp)).trans hp
section
variable {H : Type} {enc : TypeId × Value → H} {w : World}
def EvOk (w : World) (e : Ev) (K : Option Addr) (c : Nat) : Prop :=
 (Lit.int .u64 e.time).wf = true ∧ Rd .i64 w K e.ids.length e.ids ∧ e.ids.length ≤ c ∧ c ≤ maxLen
end
theorem EvOk.below {w w' : World} {e : Ev} {K : Option Addr} {c : Nat} (h : EvOk w e K c) (hb : Below w.heap.size w w') : EvOk w' e K c := ⟨h.1, h.2.1.below hb, h.2.2⟩
def noEv : Ev := ⟨0, []⟩
end Go.Proofs.Ytdbgaccnejffpaa.Trace

namespace Go.Proofs.Ytdbgaccnejffpaa.Mem
open Go.RowKit Go.ChangeShapes Go.WideShapes Go.Deep Go.Proofs.Ytdbgaccnejffpaa.Ints
section
variable {H : Type} {enc : TypeId × Value → H} {w : World}
end
end Go.Proofs.Ytdbgaccnejffpaa.Mem

namespace Go.Proofs.Ytdbgaccnejffpaa.Trace
open Go.RowKit Go.ChangeShapes Go.WideShapes Go.Deep Go.Proofs.Ytdbgaccnejffpaa.Ints Go.Proofs.Ytdbgaccnejffpaa.Mem
section
variable {H : Type} {enc : TypeId × Value → H} {w : World}
structure Tr where
 names : List (List UInt8)
 events : List Ev
deriving DecidableEq
structure TrOk (S : Nat → Prop) (w : World) (NA : Option Addr) (nn nc : Nat) (EA : Option Addr) (ne ec : Nat) (t : Tr) : Prop where
 nlen : t.names.length = nn
 elen : t.events.length = ne
 names : Strs w NA t.names
 sizes : ∀ s ∈ t.names, s.length ≤ maxLen
 evs : Evs S w EA t.events
 ncap : nn ≤ nc ∧ nc ≤ maxLen
 ecap : ne ≤ ec ∧ ec ≤ maxLen
theorem TrOk.below {S : Nat → Prop} {w w' : World} {NA EA : Option Addr} {nn nc ne ec : Nat} {t : Tr} (h : TrOk S w NA nn nc EA ne ec t) (hb : Below w.heap.size w w') : TrOk S w' NA nn nc EA ne ec t :=
 ⟨h.1, h.2, h.3.below hb, h.4, h.5.below hb, h.6, h.7⟩
end
abbrev SEv := Ev × Option Addr × Nat
def cellsS (s : SEv) : List Value := [.int .u64 s.1.time, .slice s.2.1 s.1.ids.length s.2.2]
def rowS (l : List SEv) : List Value := l.flatMap cellsS
def KidOk (S : Nat → Prop) (w : World) (s : SEv) : Prop := EvOk w s.1 s.2.1 s.2.2 ∧ ∀ a, s.2.1 = some a → 0 < s.1.ids.length → S a.block
theorem KidOk.keep {S : Nat → Prop} {w w' : World} {s : SEv} (h : KidOk S w s) (hk : ∀ p u, S p.block → w.cell? p = some u → w'.cell? p = some u) : KidOk S w' s := by
 obtain ⟨⟨h5, h10, h11, h12⟩, h14⟩ := h
 refine ⟨⟨h5, ⟨h10.1, h10.2.1, fun h0 => ?_⟩, h11, h12⟩, h14⟩
 obtain ⟨b', off, e, hc⟩ := h10.2.2 h0
 exact ⟨b', off, e, fun j hj => hk ⟨b', off + j, none⟩ _ (h14 ⟨b', off, none⟩ e h0) (hc j hj)⟩
theorem KidOk.mono {S S' : Nat → Prop} {w : World} {s : SEv} (h : KidOk S w s) (hs : ∀ b, b < w.heap.size → S b → S' b) : KidOk S' w s := by
 obtain ⟨⟨h5, h10, h11, h12⟩, h14⟩ := h
 refine ⟨⟨h5, h10, h11, h12⟩, fun a e h0 => ?_⟩
 obtain ⟨b', off, e', hc⟩ := h10.2.2 h0
 rw [e] at e'
 injection e' with e'
 subst e'
 exact hs _ (World.block_lt_of_cell? w _ (hc 0 h0)) (h14 _ e h0)
theorem KidOk.below {S : Nat → Prop} {w w' : World} {s : SEv} (h : KidOk S w s) (hb : Below w.heap.size w w') : KidOk S w' s :=
 h.keep fun p _ _ hp => (hb.cell (World.block_lt_of_cell? w p hp)).trans hp
theorem rowS_len (l : List SEv) : (rowS l).length = l.length * 2 := by
 induction l with
 | nil => rfl
 | cons t l ih =>
  simp only [rowS, List.flatMap_cons, List.length_append, List.length_cons] at ih ⊢
  rw [ih]
  show 2 + l.length * 2 = (l.length + 1) * 2
  omega
theorem rowS_append (l m : List SEv) : rowS (l ++ m) = rowS l ++ rowS m := List.flatMap_append
theorem rowS_at : ∀ (l : List SEv) (j : Nat) (t : SEv), l[j]? = some t → ∀ f, f < 2 → (rowS l)[2 * j + f]? = (cellsS t)[f]?
 | [], j, t, h, _, _ => by simp at h
 | x :: l, 0, t, h, f, hf => by
  simp only [List.getElem?_cons_zero, Option.some.injEq] at h
  subst h
  show (cellsS x ++ rowS l)[2 * 0 + f]? = _
  rw [Nat.mul_zero, Nat.zero_add, List.getElem?_append_left (by exact hf)]
 | x :: l, j + 1, t, h, f, hf => by
  have ih := rowS_at l j t (by simpa using h) f hf
  show (cellsS x ++ rowS l)[2 * (j + 1) + f]? = _
  rw [List.getElem?_append_right (by show 2 ≤ _; omega), ← ih]
  congr 1
  show 2 * (j + 1) + f - 2 = _
  omega
theorem cellsS_one (t : SEv) : ∀ u ∈ cellsS t, u.oneCell' = true := by
 intro u hu
 simp only [cellsS, List.mem_cons, List.not_mem_nil, or_false] at hu
 rcases hu with rfl | rfl <;> rfl
theorem rowS_one (l : List SEv) : ∀ u ∈ rowS l, u.oneCell' = true := by
 intro u hu
 obtain ⟨s, -, hs⟩ := List.mem_flatMap.1 hu
 exact cellsS_one s u hs
def OwnEvs (S : Nat → Prop) (w : World) (base : Nat) (v : Value) (l : List SEv) : Prop :=
 w.ownsRow base 34 2 v l.length (rowS l) ∧ ∀ s ∈ l, KidOk (fun b => S b ∧ some b ≠ v.ownBlock) w s
theorem OwnEvs.nil (S : Nat → Prop) (w : World) (base : Nat) : OwnEvs S w base (.slice none 0 0) [] := ⟨World.ownsRow_nil _ _ _ _, fun s hs => by simp at hs⟩
theorem OwnEvs.keep {S : Nat → Prop} {w w' : World} {base : Nat} {v : Value} {l : List SEv} {row : Option Nat} (h : OwnEvs S w base v l) (hg : w.grownBy w' row) (hne : v.ownBlock = none ∨ v.ownBlock ≠ row) (hs : ∀ b, S b → some b ≠ row) : OwnEvs S w' base v l :=
 ⟨h.1.kept hg hne, fun s hs' => (h.2 s hs').keep fun _ _ hp hc => hg.cell hc (hs _ hp.1)⟩
theorem OwnEvs.below {S : Nat → Prop} {w w' : World} {base : Nat} {v : Value} {l : List SEv} (h : OwnEvs S w base v l) (hb : Below w.heap.size w w') : OwnEvs S w' base v l :=
 ⟨below_row h.1 hb, fun s hs => (h.2 s hs).below hb⟩
theorem OwnEvs.mono {S S' : Nat → Prop} {w : World} {base : Nat} {v : Value} {l : List SEv} (h : OwnEvs S w base v l) (hs : ∀ b, b < w.heap.size → S b → S' b) : OwnEvs S' w base v l :=
 ⟨h.1, fun s hs' => (h.2 s hs').mono fun b hb hp => ⟨hs b hb hp.1, hp.2⟩⟩
theorem OwnEvs.reads {S : Nat → Prop} {w : World} {base : Nat} {v : Value} {l : List SEv} (h : OwnEvs S w base v l) (hS : ∀ b, base ≤ b → b < w.heap.size → S b) :
  ∃ A c, v = .slice A l.length c ∧ Evs S w A (l.map (·.1)) ∧ l.length ≤ c ∧ c ≤ maxLen := by
 obtain ⟨h1, h2⟩ := h
 have hlt := h1.lt
 have h1' := h1
 rcases h1.2 with ⟨rfl, h0⟩ | ⟨g, cap, cur, rfl, _, _, h3, h4, _⟩
 ·exact ⟨none, 0, by rw [h0], fun hp => by simp at hp; omega, by omega, by decide⟩
 ·refine ⟨_, cap, rfl, fun _ => ⟨g, 0, rfl, fun j n hj => ?_⟩, h3, h4⟩
  rw [List.getElem?_map] at hj
  obtain ⟨s, hs, rfl⟩ := Option.map_eq_some_iff.1 hj
  have hjl : j < l.length := (List.getElem?_eq_some_iff.1 hs).1
  have key : ∀ f, f < 2 → w.cell? ⟨g, 0 + 2 * j + f, none⟩ = (cellsS s)[f]? := fun f hf => by
   rw [Nat.zero_add, h1'.cellAt (2 * j + f) (by omega)]
   exact rowS_at l j s hs f hf
  obtain ⟨⟨k5, k10, k11, k12⟩, k14⟩ := h2 s (List.mem_of_getElem? hs)
  have hg := hlt g rfl
  exact ⟨key 0 (by omega), k5, s.2.1, s.2.2, key 1 (by omega), k10, k11, k12, hS _ hg.1 hg.2, fun a e h0 => (k14 a e h0).1⟩
theorem Evs.stored {S : Nat → Prop} {w : World} {A : Option Addr} {l : List Ev} (h : Evs S w A l) :
  ∃ σ : List SEv, σ.map (·.1) = l ∧ (∀ s ∈ σ, KidOk S w s) ∧ (0 < l.length → ∃ b off, A = some ⟨b, off, none⟩ ∧ S b ∧ ∀ (j : Nat) (s : SEv), σ[j]? = some s → ∀ f, f < 2 → w.cell? ⟨b, off + 2 * j + f, none⟩ = (cellsS s)[f]?) := by
 by_cases h0 : 0 < l.length
 ·obtain ⟨b, off, rfl, hn⟩ := h h0
  have one : ∀ (l' : List Ev) (i : Nat), (∀ j n, l'[j]? = some n → EvAt S w b (off + 2 * (i + j)) n) →
    ∃ σ : List SEv, σ.map (·.1) = l' ∧ (∀ s ∈ σ, KidOk S w s) ∧ ∀ (j : Nat) (s : SEv), σ[j]? = some s → ∀ f, f < 2 → w.cell? ⟨b, off + 2 * (i + j) + f, none⟩ = (cellsS s)[f]? := by
   intro l'
   induction l' with
   | nil => intro i _; exact ⟨[], rfl, fun s hs => by simp at hs, fun j s hs => by simp at hs⟩
   | cons n l' ih =>
    intro i hi
    obtain ⟨σ, e1, e2, e3⟩ := ih (i + 1) (fun j x hj => by rw [show i + 1 + j = i + (j + 1) by omega]; exact hi (j + 1) x (by simpa using hj))
    obtain ⟨x0, s0, K, c, x1, hK, hKc, hcK, hb, hKs⟩ := hi 0 n rfl
    refine ⟨(n, K, c) :: σ, by rw [List.map_cons, e1], fun s hs => ?_, fun j s hj f hf => ?_⟩
    ·rcases List.mem_cons.1 hs with rfl | hs
     ·exact ⟨⟨s0, hK, hKc, hcK⟩, hKs⟩
     ·exact e2 s hs
    ·cases j with
     | zero =>
      simp only [List.getElem?_cons_zero, Option.some.injEq] at hj
      subst hj
      match f, hf with
      | 0, _ => exact x0
      | 1, _ => exact x1
     | succ j =>
      rw [show i + (j + 1) = i + 1 + j by omega]
      exact e3 j s (by simpa using hj) f hf
  obtain ⟨σ, e1, e2, e3⟩ := one l 0 (fun j n hj => by rw [Nat.zero_add]; exact hn j n hj)
  obtain ⟨n, hn0⟩ : ∃ n, l[0]? = some n := ⟨_, List.getElem?_eq_getElem h0⟩
  obtain ⟨-, -, -, -, -, -, -, -, hb, -⟩ := hn 0 n hn0
  exact ⟨σ, e1, e2, fun _ => ⟨b, off, rfl, hb, fun j s hs f hf => by have := e3 j s hs f hf; rwa [Nat.zero_add] at this⟩⟩
 ·have : l = [] := List.eq_nil_of_length_eq_zero (by omega)
  subst this
  exact ⟨[], rfl, fun s hs => by simp at hs, fun h => absurd h h0⟩
theorem infoEvent : (Try.prog.info? 34).map (fun i => (i.zero, i.size, i.bytes)) = some (some (.agg #[.int .u64 0, .slice none 0 0]), 2, 32) := by kernel_rfl
theorem own_grown {S : Nat → Prop} {w1 w' : World} {base : Nat} {v v' : Value} {σ τ : List SEv} (h2 : ∀ s ∈ σ, KidOk (fun b => S b ∧ some b ≠ v.ownBlock) w1 s) (k2 : ∀ s ∈ τ, KidOk (fun b => S b ∧ some b ≠ v.ownBlock) w1 s)
  (hr : w'.ownsRow base 34 2 v' (σ ++ τ).length (rowS (σ ++ τ))) (hg : w1.grownBy w' v.ownBlock) (hat : v'.ownBlock = v.ownBlock ∨ v'.ownBlock = some w1.heap.size) : OwnEvs S w' base v' (σ ++ τ) := by
 refine ⟨hr, fun s hs => ?_⟩
 have h3 : KidOk (fun b => S b ∧ some b ≠ v.ownBlock) w1 s := (List.mem_append.1 hs).elim (h2 s) (k2 s)
 have h4 := (h3.mono (S' := fun b => (S b ∧ some b ≠ v.ownBlock) ∧ b < w1.heap.size) fun b hb hp => ⟨hp, hb⟩).keep (w' := w') fun _ _ hp hc => hg.cell hc hp.1.2
 exact h4.mono fun b _ hp => ⟨hp.1.1, by
  rcases hat with e | e
  ·rw [e]; exact hp.1.2
  ·rw [e]; intro e2; injection e2 with e2; omega⟩
section
variable {P : Program} {w : World}
theorem step_append_evs {ops : Array Oper} {o : Oper} {a : Act} {K : Act → World → Prop} {Q : Exit → Act → World → Prop} {E : Prop} (hgd : o.guard = none) (s x : Operand) (t : TypeId)
  (ho : o.op = .call { callee := .builtin .append, args := #[s, x], argTypes := #[t, t] }) (base : Nat) (i : TypeInfo) (z : Value)
  (ht : P.underlying t = some (.slice 34)) (hi : P.info? 34 = some i) (hz : i.zero = some z) (hsize : i.size = 2) (hby : i.bytes = 32) (hzs : z.cells.size = 2)
  (v : Value) (l : List SEv) (hs : a.eval s = v) (S : Nat → Prop) (hown : OwnEvs S w base v l)
  (A : Option Addr) (n c : Nat) (m : List Ev) (hm : m.length = n) (hx : a.eval x = .slice A n c) (hnd : Evs (fun b => S b ∧ some b ≠ v.ownBlock) w A m)
  (hl : l.length + n ≤ 4194304) (hbase : base ≤ w.heap.size)
  (h : ∀ v' w' τ, τ.map (·.1) = m → OwnEvs S w' base v' (l ++ τ) → w.grownBy w' v.ownBlock → (v'.ownBlock = v.ownBlock ∨ v'.ownBlock = some w.heap.size) → K (a.put o.dst v') w') :
  if Region.wanted o (yielded ops a.tmps) = true then Oper.wp P o a w K Q else E := by
 have hw : Region.wanted o (yielded ops a.tmps) = true := by simp [Region.wanted, hgd]
 rw [if_pos hw]
 obtain ⟨τ, e1, e2, e3⟩ := hnd.stored
 have hτ : τ.length = n := by rw [← hm, ← e1, List.length_map]
 cases A with
 | some ad =>
  have hnews : ∀ j u, (rowS τ)[j]? = some u → w.cell? (ad.add j) = some u := fun j u hu => by
   have hj : j < (rowS τ).length := (List.getElem?_eq_some_iff.1 hu).1
   rw [rowS_len] at hj
   obtain ⟨b, off, e, -, hc⟩ := e3 (by omega)
   injection e with e
   subst e
   have hq : j / 2 < τ.length := by omega
   have h1 := hc (j / 2) _ (List.getElem?_eq_getElem hq) (j % 2) (Nat.mod_lt _ (by decide))
   have h2 : (⟨b, off, none⟩ : Addr).add j = ⟨b, off + 2 * (j / 2) + j % 2, none⟩ := by
    have : off + j = off + 2 * (j / 2) + j % 2 := by omega
    rw [← this]
    unfold Addr.add; split <;> simp_all
   rw [h2, h1, ← rowS_at τ (j / 2) _ (List.getElem?_eq_getElem hq) (j % 2) (Nat.mod_lt _ (by decide)), ← hu]
   congr 1
   omega
  obtain ⟨v', w', hrun, h1, h2, -, h4⟩ := run_append_own_at (P := P) w base t o.type 34 i z 2 32 ht hi hz hsize hby hzs (by decide) v l.length (rowS l) hown.1 ad n c (rowS τ) (by rw [rowS_len, hτ]) hnews (rowS_one τ) (by have : maxLen = 9223372036854775807 := rfl; omega) (by omega) hbase
  unfold Oper.wp
  simp [execOp, ho, resolve, invoke, builtin, hs, hx, hrun, Result.andThen]
  refine h v' w' τ e1 (own_grown (w1 := w) hown.2 e2 ?_ h2 h4) h2 h4
  rw [rowS_append, List.length_append, hτ]
  exact h1
 | none =>
  have hn0 : n = 0 := by
   rcases Nat.eq_zero_or_pos n with h' | h'
   ·exact h'
   ·obtain ⟨_, _, e, _⟩ := e3 (by omega)
    cases e
  subst hn0
  have hτ0 : τ = [] := List.eq_nil_of_length_eq_zero hτ
  subst hτ0
  have hrun : (Builtin.append_ #[t, t] o.type #[v, .slice none 0 c]).run P w = .ok v w := by
   rcases hown.1.2 with ⟨rfl, -⟩ | ⟨g, cap, cur, rfl, _, _, hnc, _⟩
   ·simp [Builtin.append_, run_underlying ht, sizeOf, typeInfo, hi, Builtin.lenOf, Builtin.firstCells]
   ·simp [Builtin.append_, run_underlying ht, sizeOf, typeInfo, hi, Builtin.lenOf, Builtin.firstCells, hnc, storeCells]
  unfold Oper.wp
  simp [execOp, ho, resolve, invoke, builtin, hs, hx, hrun, Result.andThen]
  exact h v w [] e1 (by rw [List.append_nil]; exact hown) (World.grownBy.refl w _) (Or.inl rfl)
end
theorem step_append_ev {P : Program} {w : World} {ops : Array Oper} {o : Oper} {a : Act} {K : Act → World → Prop} {Q : Exit → Act → World → Prop} {E : Prop} (hgd : o.guard = none) (s x : Operand) (t : TypeId)
  (ho : o.op = .call { callee := .builtin .append, args := #[s, x], argTypes := #[t, t] }) (base : Nat) (i : TypeInfo) (z : Value)
  (ht : P.underlying t = some (.slice 34)) (hi : P.info? 34 = some i) (hz : i.zero = some z) (hsize : i.size = 2) (hby : i.bytes = 32) (hzs : z.cells.size = 2)
  (v : Value) (l : List SEv) (hs : a.eval s = v) (S : Nat → Prop) (hown : OwnEvs S w base v l)
  (sn : SEv) (hk : KidOk (fun b => S b ∧ some b ≠ v.ownBlock) w sn) (H : Nat) (T : TypeId) (fr : Nat × Nat) (hblk : w.heap[H]? = some (.cells (cellsS sn).toArray T fr)) (hx : a.eval x = .slice (some ⟨H, 0, none⟩) 1 1)
  (hl : l.length ≤ 4194303) (hbase : base ≤ w.heap.size)
  (h : ∀ v' w', OwnEvs S w' base v' (l ++ [sn]) → w.grownBy w' v.ownBlock → (v'.ownBlock = v.ownBlock ∨ v'.ownBlock = some w.heap.size) → K (a.put o.dst v') w') :
  if Region.wanted o (yielded ops a.tmps) = true then Oper.wp P o a w K Q else E := by
 have hw : Region.wanted o (yielded ops a.tmps) = true := by simp [Region.wanted, hgd]
 rw [if_pos hw]
 obtain ⟨v', w', hrun, h1, h2, -, h4⟩ := run_append_own_at (P := P) w base t o.type 34 i z 2 32 ht hi hz hsize hby hzs (by decide) v l.length (rowS l) hown.1 ⟨H, 0, none⟩ 1 1 (cellsS sn) rfl (fun j u hu => by
  rw [show (⟨H, 0, none⟩ : Addr).add j = ⟨H, j, none⟩ by unfold Addr.add; split <;> simp_all]
  rw [cell_of_row w H j _ T fr hblk]
  simpa using hu) (cellsS_one sn) (by have : maxLen = 9223372036854775807 := rfl; omega) (by omega) hbase
 unfold Oper.wp
 simp [execOp, ho, resolve, invoke, builtin, hs, hx, hrun, Result.andThen]
 refine h v' w' (own_grown (w1 := w) hown.2 (fun s hs => by rw [List.mem_singleton.1 hs]; exact hk) ?_ h2 h4) h2 h4
 rw [rowS_append, List.length_append]
 have e : rowS [sn] = cellsS sn := by simp [rowS]
 rw [e]
 exact h1
end Go.Proofs.Ytdbgaccnejffpaa.Trace
