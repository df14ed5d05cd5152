/-
  DERIVED: THE SHELF's CONTRACTS AT THIS DUMP, IN PLAIN WORDS (tools/lay-plain.mjs out of 'TryzShelf.lean', which tools/lay-shelf.mjs wrote): THE SAME DECLARATIONS UNDER THE SAME NAMES: 'import', 'namespace', 'open', 'def', 'theorem' AND NOTHING ELSE: no command of the shelf's: FOR A HAND-IN. Each laying: the table of numbers ('.._ren') and one theorem, a field a fact of the dump's own or the kernel's comparison; each contract: ONE APPLICATION.
  strconv.Itoa, for every int, by the shelf's contract; its table in its variable. By an AI agent.
  The walk of the reference's SpanText. By an AI agent.
  The walks of the landed ival's endless and May. By an AI agent.
  The walk of the landed ival's Text. By an AI agent.
  The walks of package ival. By an AI agent.
  Events in memory: an event by value, and its two cells; what an event that came in reads as. By an AI agent.
  Lists of strings that came in. By an AI agent.
  Traces in memory: events and rows of events of the call's own; what events that came in read as. By an AI agent.
  Ids as plain lists: which may be. By an AI agent.
-/
import Derived.Shelf.LaysM
import Derived.Shelf.Strconv.Clone
import Derived.Shelf.Slices.Turned
import Derived.Shelf.Slices.Equal
import Derived.Ground.Names2Prog
import Derived.Shelf.Slices.Clone
import Derived.Shelf.Slices.Empties2
import Derived.Test.YtdbgaccnejffpaaGreatProg
import Derived.Test.YtdbgaccnejffpaaGreatChecked
import Derived.Lib.AppendIntMem
import Derived.Lib.ItoaLen
import Derived.Below
import Derived.WalkKit
import Derived.Test.YtdbgaccnejffpaaGreatGSatTells3
import Derived.RegionTactic
import Derived.Deep.RegionWith
import Derived.BigRegion
import Derived.Test.YtdbgaccnejffpaaGreatGSatTells2
namespace Go.Proofs
open Go.Shelf
open Go.RowKit in
open Go.Lib in
open Go.Lib in
def Tryz.lays107_ren : Go.Shelf.Ren := ⟨fun | 107 => 73 | 108 => 111 | n => n, fun | 28 => 29 | 3 => 3 | 4 => 4 | 0 => 0 | n => n, fun | n => n⟩
theorem Tryz.lays107 : Go.Proofs.Lays.n107 Tryz.prog Tryz.lays107_ren := {
 mixed := by kernel_rfl
 f107 := Tryz.func73.trans (congrArg some (by kernel_rfl))
 f108 := Tryz.func111.trans (congrArg some (by kernel_rfl))
 t0 := Tryz.underlying0
 a0 := Tryz.isAgg0
 z0 := Tryz.sizeOf0
 v0 := Tryz.zeroValue0
 t3 := Tryz.underlying3
 a3 := Tryz.isAgg3
 z3 := Tryz.sizeOf3
 v3 := Tryz.zeroValue3
 t4 := Tryz.underlying4
 a4 := Tryz.isAgg4
 z4 := Tryz.sizeOf4
 v4 := Tryz.zeroValue4
 t28 := Tryz.underlying29
 a28 := Tryz.isAgg29
 z28 := Tryz.sizeOf29
 v28 := Tryz.zeroValue29 }
open Go.Lib in
theorem Tryz.slices_Contains_int (b off n c : Nat) (zs : List Int) (x : Int) (w : World) (hz : n ≤ zs.length) (hbig : n ≤ 9223372036854775807) (hc : ∀ j, j < zs.length → w.cell? ⟨b, off + j, none⟩ = some (.int .i64 (zs.getD j 0))) :
  Calls Tryz.prog 73 #[.slice (some ⟨b, off, none⟩) n c, .int .i64 x] w fun e w' => e = .returned (.bool ((zs.take n).contains x)) ∧ w' = w := Any.slices_Contains_int Tryz.lays107 b off n c zs x w hz hbig hc
open Go.Lib in
theorem Tryz.slices_Contains_int_empty (a : Option Addr) (c : Nat) (x : Int) (w : World) :
  Calls Tryz.prog 73 #[.slice a 0 c, .int .i64 x] w fun e w' => e = .returned (.bool false) ∧ w' = w := Any.slices_Contains_int_empty Tryz.lays107 a c x w
def Tryz.lays109_ren : Go.Shelf.Ren := ⟨fun | 109 => 71 | n => n, fun | 31 => 22 | 9 => 9 | 3 => 3 | 0 => 0 | 4 => 4 | n => n, fun | n => n⟩
theorem Tryz.lays109 : Go.Proofs.Lays.n109 Tryz.prog Tryz.lays109_ren := {
 mixed := by kernel_rfl
 f109 := Tryz.func71.trans (congrArg some (by kernel_rfl))
 t0 := Tryz.underlying0
 a0 := Tryz.isAgg0
 z0 := Tryz.sizeOf0
 v0 := Tryz.zeroValue0
 t3 := Tryz.underlying3
 a3 := Tryz.isAgg3
 z3 := Tryz.sizeOf3
 v3 := Tryz.zeroValue3
 t4 := Tryz.underlying4
 a4 := Tryz.isAgg4
 z4 := Tryz.sizeOf4
 v4 := Tryz.zeroValue4
 t9 := Tryz.underlying9
 a9 := Tryz.isAgg9
 z9 := Tryz.sizeOf9
 v9 := Tryz.zeroValue9
 t31 := Tryz.underlying22
 a31 := Tryz.isAgg22
 z31 := Tryz.sizeOf22
 v31 := Tryz.zeroValue22 }
open Go.Lib in
theorem Tryz.slices_Index_string (b off n c : Nat) (zs : List ByteArray) (x : ByteArray) (w : World) (hz : n ≤ zs.length) (hbig : n ≤ 9223372036854775807) (hc : ∀ j, j < zs.length → w.cell? ⟨b, off + j, none⟩ = some (.string (zs.getD j ByteArray.empty))) :
  Calls Tryz.prog 71 #[.slice (some ⟨b, off, none⟩) n c, .string x] w fun e w' => e = .returned (.int .i64 (Lib.idxOfS (zs.take n) x)) ∧ w' = w := Any.slices_Index_string Tryz.lays109 b off n c zs x w hz hbig hc
open Go.Lib in
theorem Tryz.slices_Index_string_empty (a : Option Addr) (c : Nat) (x : ByteArray) (w : World) :
  Calls Tryz.prog 71 #[.slice a 0 c, .string x] w fun e w' => e = .returned (.int .i64 (Lib.idxOfS [] x)) ∧ w' = w := Any.slices_Index_string_empty Tryz.lays109 a c x w
def Tryz.lays110_ren : Go.Shelf.Ren := ⟨fun | 110 => 56 | 109 => 71 | n => n, fun | 31 => 22 | 9 => 9 | 4 => 4 | 3 => 3 | 0 => 0 | n => n, fun | n => n⟩
theorem Tryz.lays110 : Go.Proofs.Lays.n110 Tryz.prog Tryz.lays110_ren := {
 mixed := by kernel_rfl
 f109 := Tryz.func71.trans (congrArg some (by kernel_rfl))
 f110 := Tryz.func56.trans (congrArg some (by kernel_rfl))
 t0 := Tryz.underlying0
 a0 := Tryz.isAgg0
 z0 := Tryz.sizeOf0
 v0 := Tryz.zeroValue0
 t3 := Tryz.underlying3
 a3 := Tryz.isAgg3
 z3 := Tryz.sizeOf3
 v3 := Tryz.zeroValue3
 t4 := Tryz.underlying4
 a4 := Tryz.isAgg4
 z4 := Tryz.sizeOf4
 v4 := Tryz.zeroValue4
 t9 := Tryz.underlying9
 a9 := Tryz.isAgg9
 z9 := Tryz.sizeOf9
 v9 := Tryz.zeroValue9
 t31 := Tryz.underlying22
 a31 := Tryz.isAgg22
 z31 := Tryz.sizeOf22
 v31 := Tryz.zeroValue22 }
open Go.Lib in
theorem Tryz.slices_Contains_string (b off n c : Nat) (zs : List ByteArray) (x : ByteArray) (w : World) (hz : n ≤ zs.length) (hbig : n ≤ 9223372036854775807) (hc : ∀ j, j < zs.length → w.cell? ⟨b, off + j, none⟩ = some (.string (zs.getD j ByteArray.empty))) :
  Calls Tryz.prog 56 #[.slice (some ⟨b, off, none⟩) n c, .string x] w fun e w' => e = .returned (.bool (Lib.containsS (zs.take n) x)) ∧ w' = w := Any.slices_Contains_string Tryz.lays110 b off n c zs x w hz hbig hc
open Go.Lib in
theorem Tryz.slices_Contains_string_empty (a : Option Addr) (c : Nat) (x : ByteArray) (w : World) :
  Calls Tryz.prog 56 #[.slice a 0 c, .string x] w fun e w' => e = .returned (.bool false) ∧ w' = w := Any.slices_Contains_string_empty Tryz.lays110 a c x w
def Tryz.lays111_ren : Go.Shelf.Ren := ⟨fun | 111 => 68 | n => n, fun | 28 => 29 | 3 => 3 | 4 => 4 | 0 => 0 | n => n, fun | n => n⟩
theorem Tryz.lays111 : Go.Proofs.Lays.n111 Tryz.prog Tryz.lays111_ren := {
 mixed := by kernel_rfl
 f111 := Tryz.func68.trans (congrArg some (by kernel_rfl))
 t0 := Tryz.underlying0
 a0 := Tryz.isAgg0
 z0 := Tryz.sizeOf0
 v0 := Tryz.zeroValue0
 t3 := Tryz.underlying3
 a3 := Tryz.isAgg3
 z3 := Tryz.sizeOf3
 v3 := Tryz.zeroValue3
 t4 := Tryz.underlying4
 a4 := Tryz.isAgg4
 z4 := Tryz.sizeOf4
 v4 := Tryz.zeroValue4
 t28 := Tryz.underlying29
 a28 := Tryz.isAgg29
 z28 := Tryz.sizeOf29
 v28 := Tryz.zeroValue29 }
open Go.RowKit Go.Lib in
theorem Tryz.slices_Equal_int (b1 o1 n c b2 o2 m d : Nat) (xs ys : List Int) (w : World) (hx : n ≤ xs.length) (hy : m ≤ ys.length) (hbig : n ≤ 9223372036854775807) (hbig2 : m ≤ 9223372036854775807) (hc1 : ∀ j, j < xs.length → w.cell? ⟨b1, o1 + j, none⟩ = some (.int .i64 (xs.getD j 0))) (hc2 : ∀ j, j < ys.length → w.cell? ⟨b2, o2 + j, none⟩ = some (.int .i64 (ys.getD j 0))) :
  Calls Tryz.prog 68 #[.slice (some ⟨b1, o1, none⟩) n c, .slice (some ⟨b2, o2, none⟩) m d] w fun e w' => e = .returned (.bool (xs.take n == ys.take m)) ∧ ∃ q, w' = w.drewN q := Any.slices_Equal_int Tryz.lays111 b1 o1 n c b2 o2 m d xs ys w hx hy hbig hbig2 hc1 hc2
open Go.RowKit Go.Lib in
theorem Tryz.slices_Equal_int_empty (a1 a2 : Option Addr) (c m d : Nat) (w : World) (hbig2 : m ≤ 9223372036854775807) :
  Calls Tryz.prog 68 #[.slice a1 0 c, .slice a2 m d] w fun e w' => e = .returned (.bool (decide (m = 0))) ∧ w' = w := Any.slices_Equal_int_empty Tryz.lays111 a1 a2 c m d w hbig2
open Go.RowKit Go.Lib in
open Go.RowKit Go.Lib in
open Go.RowKit Go.Lib in
open Go.RowKit Go.Lib in
theorem Tryz.slices_Equal_int_lens (a1 a2 : Option Addr) (n c m d : Nat) (w : World) (hnm : n ≠ m) :
  Calls Tryz.prog 68 #[.slice a1 n c, .slice a2 m d] w fun e w' => e = .returned (.bool false) ∧ w' = w := Any.slices_Equal_int_lens Tryz.lays111 a1 a2 n c m d w hnm
end Go.Proofs

namespace Go.Proofs.YtdbgaccnejffpaaGreat.Itoa
open Go.RowKit Go.Sort
end Go.Proofs.YtdbgaccnejffpaaGreat.Itoa

namespace Go.Proofs.YtdbgaccnejffpaaGreat.Ival
open Go.RowKit Go.Proofs.YtdbgaccnejffpaaGreat.Itoa
end Go.Proofs.YtdbgaccnejffpaaGreat.Ival

namespace Go.Proofs.YtdbgaccnejffpaaGreat.Ival
open Go.RowKit
theorem progEndless (lo hi : Int) (w : World) :
  Calls Tryz.prog 113 #[span lo hi] w fun e w' => e = .returned (.bool (hi == -1)) ∧ Below w.heap.size w w' := by
 go_enter Tryz.func113, Tryz.ntmps113
 go_wp2
 go_ret
 exact ⟨rfl, (Below.refl _ _).alloc (Nat.le_refl _) _⟩
theorem progMay (lo hi : Int) (w : World) :
  Calls Tryz.prog 112 #[span lo hi] w fun e w' => e = .returned (.bool (mayS lo hi)) ∧ Below w.heap.size w w' := by
 have he := fun W => progEndless lo hi W
 rcases may_cases lo hi with ⟨h1, h⟩ | ⟨h1, h2, h⟩ | ⟨h1, h2, h3, h⟩ | ⟨h1, h2, h3, h4, h⟩ | ⟨h1, h2, h3, h4, h5, h⟩ | ⟨h1, h2, h3, h4, h5, h⟩
 case' inr.inr.inl =>
  subst h3
  have h3 : ((-1 : Int) == -1) = true := rfl
 case' inr.inr.inl | inr.inr.inr.inl | inr.inr.inr.inr.inl | inr.inr.inr.inr.inr =>
  rw [h3] at he
 all_goals
  rw [h]
  clear h
  have HE := Lib.hid he
  clear he
  go_enter Tryz.func112, Tryz.ntmps112
  go_wp2_with (go_at_call 113; refine (HE.out _).mono ?_; rintro e w' ⟨rfl, hb⟩; have hc0 := box0 hb; have hc1 := box1 hb)
  go_ret
  first
   | exact ⟨rfl, ((Below.refl _ _).alloc (Nat.le_refl _) _).trans (hb.mono (by simp))⟩
   | exact ⟨rfl, (Below.refl _ _).alloc (Nat.le_refl _) _⟩
end Go.Proofs.YtdbgaccnejffpaaGreat.Ival

namespace Go.Proofs.YtdbgaccnejffpaaGreat.Ival
open Go.RowKit Go.Proofs.YtdbgaccnejffpaaGreat.Itoa
end Go.Proofs.YtdbgaccnejffpaaGreat.Ival

namespace Go.Proofs.YtdbgaccnejffpaaGreat.Ival
open Go.RowKit Go.Proofs.YtdbgaccnejffpaaGreat.Itoa
theorem progHas (lo hi : Int) (d : Nat) (w : World) (_hd : d < 18446744073709551616) :
  Calls Tryz.prog 76 #[span lo hi, .int .u64 d] w fun e w' => e = .returned (.bool (hasS lo hi d)) ∧ Below w.heap.size w w' := by
 have hm := fun W => progMay lo hi W
 have he := fun W => progEndless lo hi W
 unfold hasS
 rcases may_ways lo hi with h | ⟨h, h1, h2, h3⟩ | ⟨h, h1, h0, h2, h3, h4⟩
 ·rw [h] at hm ⊢
  have HM := Lib.hid hm
  clear hm h he
  go_enter Tryz.func76, Tryz.ntmps76
  go_wp2_with (go_at_call 112; refine (HM.out _).mono ?_; rintro e w' ⟨rfl, hb⟩; have hc0 := box0 hb; have hc1 := box1 hb)
  go_ret
  exact ⟨rfl, ((Below.refl _ _).alloc (Nat.le_refl _) _).trans (hb.mono (by simp))⟩
 ·subst h1
  rw [h] at hm ⊢
  rw [show ((-1 : Int) == -1) = true from rfl] at he
  have HM := Lib.hid hm
  have HE := Lib.hid he
  have e1 : IntKind.u64.wrap lo = lo := by rw [IntKind.wrap_u64]; omega
  have HL := Lib.hid h3
  clear hm h he
  by_cases h4 : lo ≤ (d : Int)
  ·rw [show (true && decide (lo ≤ (d : Int) ∧ ((-1 : Int) = -1 ∨ (d : Int) ≤ -1))) = true by simp [h4]]
   go_enter Tryz.func76, Tryz.ntmps76
   go_wp2_with (first
    | (go_at_call 112; refine (HM.out _).mono ?_; rintro e w' ⟨rfl, hb⟩; have hc0 := box0 hb; have hc1 := box1 hb)
    | (go_at_call 113; refine (HE.out _).mono ?_; rintro e w2 ⟨rfl, hb2⟩; have hc2 := keep_cell hb2 hc0; have hc3 := keep_cell hb2 hc1))
   go_ret
   exact ⟨rfl, (((Below.refl _ _).alloc (Nat.le_refl _) _).trans (hb.mono (by simp))).trans (hb2.mono (by have := hb.size; simp at this; omega))⟩
  ·rw [show (true && decide (lo ≤ (d : Int) ∧ ((-1 : Int) = -1 ∨ (d : Int) ≤ -1))) = false by simp [h4]]
   go_enter Tryz.func76, Tryz.ntmps76
   go_wp2_with (go_at_call 112; refine (HM.out _).mono ?_; rintro e w' ⟨rfl, hb⟩; have hc0 := box0 hb; have hc1 := box1 hb)
   go_ret
   exact ⟨rfl, ((Below.refl _ _).alloc (Nat.le_refl _) _).trans (hb.mono (by simp))⟩
 ·rw [h] at hm ⊢
  rw [h1] at he
  have HM := Lib.hid hm
  have HE := Lib.hid he
  have e1 : IntKind.u64.wrap lo = lo := by rw [IntKind.wrap_u64]; omega
  have e2 : IntKind.u64.wrap hi = hi := by rw [IntKind.wrap_u64]; omega
  have HL := Lib.hid h0
  clear hm h h0 he
  by_cases h5 : lo ≤ (d : Int)
  ·have h7 : (true && decide (lo ≤ (d : Int) ∧ (hi = -1 ∨ (d : Int) ≤ hi))) = decide ((d : Int) ≤ hi) := by have := HL.out; simp [h5, this]
   rw [h7]
   clear h7
   go_enter Tryz.func76, Tryz.ntmps76
   go_wp2_with (first
    | (go_at_call 112; refine (HM.out _).mono ?_; rintro e w' ⟨rfl, hb⟩; have hc0 := box0 hb; have hc1 := box1 hb)
    | (go_at_call 113; refine (HE.out _).mono ?_; rintro e w2 ⟨rfl, hb2⟩; have hc2 := keep_cell hb2 hc0; have hc3 := keep_cell hb2 hc1))
   go_ret
   exact ⟨rfl, (((Below.refl _ _).alloc (Nat.le_refl _) _).trans (hb.mono (by simp))).trans (hb2.mono (by have := hb.size; simp at this; omega))⟩
  ·rw [show (true && decide (lo ≤ (d : Int) ∧ (hi = -1 ∨ (d : Int) ≤ hi))) = false by simp [h5]]
   go_enter Tryz.func76, Tryz.ntmps76
   go_wp2_with (go_at_call 112; refine (HM.out _).mono ?_; rintro e w' ⟨rfl, hb⟩; have hc0 := box0 hb; have hc1 := box1 hb)
   go_ret
   exact ⟨rfl, ((Below.refl _ _).alloc (Nat.le_refl _) _).trans (hb.mono (by simp))⟩
def lastS (lo hi : Int) : Int := if hi = -1 then lo else hi
theorem progLast (lo hi : Int) (w : World) :
  Calls Tryz.prog 114 #[span lo hi] w fun e w' => e = .returned (.int .i64 (lastS lo hi)) ∧ Below w.heap.size w w' := by
 have he := fun W => progEndless lo hi W
 unfold lastS
 by_cases h1 : hi = -1
 ·subst h1
  rw [if_pos rfl]
  rw [show ((-1 : Int) == -1) = true from rfl] at he
  have HE := Lib.hid he
  clear he
  go_enter Tryz.func114, Tryz.ntmps114
  go_wp2_with (go_at_call 113; refine (HE.out _).mono ?_; rintro e w' ⟨rfl, hb⟩; have hc0 := box0 hb; have hc1 := box1 hb)
  go_ret
  exact ⟨rfl, ((Below.refl _ _).alloc (Nat.le_refl _) _).trans (hb.mono (by simp))⟩
 ·rw [if_neg h1]
  rw [show (hi == -1) = false by simp [h1]] at he
  have HE := Lib.hid he
  clear he h1
  go_enter Tryz.func114, Tryz.ntmps114
  go_wp2_with (go_at_call 113; refine (HE.out _).mono ?_; rintro e w' ⟨rfl, hb⟩; have hc0 := box0 hb; have hc1 := box1 hb)
  go_ret
  exact ⟨rfl, ((Below.refl _ _).alloc (Nat.le_refl _) _).trans (hb.mono (by simp))⟩
theorem wide_last {lo hi : Int} (h : mayS lo hi = true) : wideS lo hi = lastS lo hi + 1 ∧ 0 ≤ lastS lo hi ∧ lastS lo hi ≤ 9999 := by
 obtain ⟨h1, h2, h3⟩ := may_parts h
 unfold wideS lastS
 rw [if_pos h]
 split <;> omega
theorem class_in' {lo hi : Int} {d : Nat} (h : mayS lo hi = true) (hd : (d : Int) ≤ lastS lo hi) : classS lo hi d = d := by
 unfold classS lastS at *
 rw [if_pos h]
 split at hd <;> rename_i h1
 ·rw [if_pos h1]; omega
 ·rw [if_neg h1, if_neg (by omega)]
theorem class_open {lo hi : Int} {d : Nat} (h : mayS lo hi = true) (hd : ¬ (d : Int) ≤ lastS lo hi) (h1 : hi = -1) : classS lo hi d = lo := by
 unfold classS lastS at *
 rw [if_pos h]
 rw [if_pos h1] at hd ⊢
 omega
theorem class_none {lo hi : Int} {d : Nat} (h : mayS lo hi = true) (hd : ¬ (d : Int) ≤ lastS lo hi) (h1 : ¬ hi = -1) : classS lo hi d = -1 := by
 unfold classS lastS at *
 rw [if_pos h]
 rw [if_neg h1] at hd ⊢
 rw [if_pos (by omega)]
theorem progClass (lo hi : Int) (d : Nat) (w : World) (_hd : d < 18446744073709551616) :
  Calls Tryz.prog 82 #[span lo hi, .int .u64 d] w fun e w' => e = .returned (.int .i64 (classS lo hi d)) ∧ Below w.heap.size w w' := by
 have hm := fun W => progMay lo hi W
 have hl := fun W => progLast lo hi W
 have he := fun W => progEndless lo hi W
 rcases Bool.eq_false_or_eq_true (mayS lo hi) with h | h
 ·obtain ⟨-, h2, h3⟩ := wide_last h
  by_cases h4 : (d : Int) ≤ lastS lo hi
  ·rw [class_in' h h4]
   rw [h] at hm
   obtain ⟨v, hv⟩ : ∃ v, lastS lo hi = v := ⟨_, rfl⟩
   rw [hv] at hl h2 h3 h4
   have HM := Lib.hid hm
   have HL := Lib.hid hl
   have e1 : IntKind.u64.wrap v = v := by rw [IntKind.wrap_u64]; omega
   have e2 : wrap64 (d : Int) = (d : Int) := IntWalk.wrap64_in _ (by omega)
   clear hm hl he h hv
   go_enter Tryz.func82, Tryz.ntmps82
   go_wp2_with (first
    | (go_at_call 112; refine (HM.out _).mono ?_; rintro e w' ⟨rfl, hb⟩; have hc0 := box0 hb; have hc1 := box1 hb)
    | (go_at_call 114; refine (HL.out _).mono ?_; rintro e w2 ⟨rfl, hb2⟩; have hc2 := keep_cell hb2 hc0; have hc3 := keep_cell hb2 hc1))
   go_ret
   exact ⟨rfl, (((Below.refl _ _).alloc (Nat.le_refl _) _).trans (hb.mono (by simp))).trans (hb2.mono (by have := hb.size; simp at this; omega))⟩
  ·obtain ⟨r, hr, h5⟩ : ∃ r, classS lo hi d = r ∧ ((hi == -1) = true ∧ r = lo ∨ (hi == -1) = false ∧ r = -1) := by
    by_cases h1 : hi = -1
    ·exact ⟨_, class_open h h4 h1, Or.inl ⟨by simp [h1], rfl⟩⟩
    ·exact ⟨_, class_none h h4 h1, Or.inr ⟨by simp [h1], rfl⟩⟩
   rw [hr]
   rw [h] at hm
   obtain ⟨v, hv⟩ : ∃ v, lastS lo hi = v := ⟨_, rfl⟩
   rw [hv] at hl h2 h3 h4
   have h6 : decide ((d : Int) ≤ v) = false := by simp; omega
   have e1 : IntKind.u64.wrap v = v := by rw [IntKind.wrap_u64]; omega
   have HM := Lib.hid hm
   have HL := Lib.hid hl
   rcases h5 with ⟨h5, h7⟩ | ⟨h5, h7⟩
   all_goals
    rw [h5] at he
    rw [h7]
    have HE := Lib.hid he
    clear hm hl he h hv h4 hr h5 h7 r
    go_enter Tryz.func82, Tryz.ntmps82
    go_wp2_with (first
     | (go_at_call 112; refine (HM.out _).mono ?_; rintro e w' ⟨rfl, hb⟩; have hc0 := box0 hb; have hc1 := box1 hb)
     | (go_at_call 114; refine (HL.out _).mono ?_; rintro e w2 ⟨rfl, hb2⟩; have hc2 := keep_cell hb2 hc0; have hc3 := keep_cell hb2 hc1)
     | (go_at_call 113; refine (HE.out _).mono ?_; rintro e w3 ⟨rfl, hb3⟩; have hc4 := keep_cell hb3 hc2; have hc5 := keep_cell hb3 hc3))
    go_ret
    exact ⟨rfl, ((((Below.refl _ _).alloc (Nat.le_refl _) _).trans (hb.mono (by simp))).trans (hb2.mono (by have := hb.size; simp at this; omega))).trans (hb3.mono (by have := hb.size; have := hb2.size; simp at *; omega))⟩
 ·rw [show classS lo hi d = -1 by unfold classS; rw [h]; rfl]
  rw [h] at hm
  have HM := Lib.hid hm
  clear hm h hl he
  go_enter Tryz.func82, Tryz.ntmps82
  go_wp2_with (go_at_call 112; refine (HM.out _).mono ?_; rintro e w' ⟨rfl, hb⟩; have hc0 := box0 hb; have hc1 := box1 hb)
  go_ret
  exact ⟨rfl, ((Below.refl _ _).alloc (Nat.le_refl _) _).trans (hb.mono (by simp))⟩
end Go.Proofs.YtdbgaccnejffpaaGreat.Ival

namespace Go.Proofs.YtdbgaccnejffpaaGreat.Trace
open Go.RowKit Go.ChangeShapes Go.WideShapes Go.Deep Go.Proofs.YtdbgaccnejffpaaGreat.Ints Go.Proofs.YtdbgaccnejffpaaGreat.Mem
structure Ev where
 time : Int
 ids : List Int
deriving DecidableEq
def EvAt (S : Nat → Prop) (w : World) (b o : Nat) (e : Ev) : Prop :=
 w.cell? ⟨b, o, none⟩ = some (.int .u64 e.time) ∧ (Lit.int .u64 e.time).wf = true ∧
  ∃ (K : Option Addr) (c : Nat), w.cell? ⟨b, o + 1, none⟩ = some (.slice K e.ids.length c) ∧ Rd .i64 w K e.ids.length e.ids ∧ e.ids.length ≤ c ∧ c ≤ maxLen ∧ S b ∧ (∀ a, K = some a → 0 < e.ids.length → S a.block)
theorem EvAt.keep {S : Nat → Prop} {w w' : World} {b o : Nat} {e : Ev} (h : EvAt S w b o e) (hk : ∀ p u, S p.block → w.cell? p = some u → w'.cell? p = some u) : EvAt S w' b o e := by
 obtain ⟨h1, h5, K, c, h9, h10, h11, h12, h13, h14⟩ := h
 refine ⟨hk _ _ h13 h1, h5, K, c, hk _ _ h13 h9, ⟨h10.1, h10.2.1, fun h0 => ?_⟩, h11, h12, h13, h14⟩
 obtain ⟨b', off, e', hc⟩ := h10.2.2 h0
 exact ⟨b', off, e', fun j hj => hk ⟨b', off + j, none⟩ _ (h14 ⟨b', off, none⟩ e' h0) (hc j hj)⟩
def Evs (S : Nat → Prop) (w : World) (A : Option Addr) (l : List Ev) : Prop :=
 0 < l.length → ∃ b off, A = some ⟨b, off, none⟩ ∧ ∀ (j : Nat) (e : Ev), l[j]? = some e → EvAt S w b (off + 2 * j) e
theorem Evs.keep {S : Nat → Prop} {w w' : World} {A : Option Addr} {l : List Ev} (h : Evs S w A l) (hk : ∀ p u, S p.block → w.cell? p = some u → w'.cell? p = some u) : Evs S w' A l := fun h0 => by
 obtain ⟨b, off, h1, h2⟩ := h h0
 exact ⟨b, off, h1, fun j n hn => (h2 j n hn).keep hk⟩
theorem Evs.below {S : Nat → Prop} {w w' : World} {A : Option Addr} {l : List Ev} (h : Evs S w A l) (hb : Below w.heap.size w w') : Evs S w' A l :=
 h.keep fun p _ _ hp => (hb.cell (World.block_lt_of_cell? w p hp)).trans hp
theorem structEvent : Tryz.prog.underlying 31 = some (.struct (Tryz.prog.fieldsOf 31)) := by kernel_rfl
theorem fieldsEvent : (Tryz.prog.fieldsOf 31).toList.map (fun f => (f.type, f.offset)) = [(28, 0), (29, 1)] := by kernel_rfl
theorem cellsEvent : Tryz.prog.cellsOf 31 = 2 := by kernel_rfl
theorem cellsU64 : Tryz.prog.cellsOf 28 = 1 := by kernel_rfl
section
variable {H : Type} {enc : TypeId × Value → H} {w : World}
def EvOk (w : World) (e : Ev) (K : Option Addr) (c : Nat) : Prop :=
 (Lit.int .u64 e.time).wf = true ∧ Rd .i64 w K e.ids.length e.ids ∧ e.ids.length ≤ c ∧ c ≤ maxLen
theorem event_vals {fuel : Nat} {cs : List Value} {x : DataW H × List MemPlace} (h : DataW.trod enc Tryz.prog w 0 (fun _ => true) true fuel 31 cs = some x) :
  ∃ e K c, cs[0]? = some (.int .u64 e.time) ∧ cs[1]? = some (.slice K e.ids.length c) ∧ EvOk w e K c := by
 obtain ⟨ys, m, -, -, -, hlen, hf⟩ := DataW.trod_struct structEvent h
 have hsz : (Tryz.prog.fieldsOf 31).size = 2 := by
  have := congrArg List.length fieldsEvent
  simpa using this
 obtain ⟨f0, g0, t0, o0⟩ := field_at fieldsEvent (i := 0) rfl
 obtain ⟨f1, g1, t1, o1⟩ := field_at fieldsEvent (i := 1) rfl
 obtain ⟨y0, e0⟩ : ∃ y, ys[0]? = some y := ⟨_, List.getElem?_eq_getElem (by omega)⟩
 obtain ⟨y1, e1⟩ : ∃ y, ys[1]? = some y := ⟨_, List.getElem?_eq_getElem (by omega)⟩
 have k0 := hf 0 f0 g0
 have k1 := hf 1 f1 g1
 rw [t0, o0, e0, cellsU64] at k0
 rw [t1, o1, e1, cellsInts] at k1
 obtain ⟨tm, c0, -, w0⟩ := DataW.trod_int Tryz.underlying28 k0
 have d0 := one_of c0
 rcases open_ints Tryz.underlying29 Tryz.underlying3 cellsInt k1 with ⟨hcs, -⟩ | ⟨a, len, cap, us, hcs, -, hl, hm, hz, -, hcell, hwf⟩
 ·exact ⟨⟨tm, []⟩, none, 0, d0, one_of hcs, w0, Rd.nil _ _ _, Nat.le_refl _, by decide⟩
 ·have d3 := one_of hcs
  obtain ⟨hr, hl', hm'⟩ := rd_of (k := .i64) (w := w) (A := some a) (zs := us) (len := len) (cap := cap) (Or.inr ⟨a, rfl, hl, hm, by simpa using hz, hcell, hwf⟩)
  have hlen3 : (us.take len).length = len := by rw [List.length_take]; have : us.length = cap := by simpa using hz
                                                omega
  refine ⟨⟨tm, us.take len⟩, some a, cap, d0, ?_, w0, ?_, ?_, hm⟩
  ·simp only [hlen3]; exact d3
  ·simp only [hlen3]; exact hr
  ·simp only [hlen3]; exact hl
theorem event_of {fuel : Nat} {cs : List Value} {x : DataW H × List MemPlace} {b o : Nat} (h : DataW.trod enc Tryz.prog w 0 (fun _ => true) true fuel 31 cs = some x)
  (hc : ∀ j, j < 2 → w.cell? ⟨b, o + j, none⟩ = cs[j]?) : ∃ e, EvAt Any w b o e := by
 obtain ⟨e, K, c, d0, d1, h5, h9, h10, h11⟩ := event_vals h
 exact ⟨e, (hc 0 (by omega)).trans d0, h5, K, c, (hc 1 (by omega)).trans d1, h9, h10, h11, trivial, fun _ _ _ => trivial⟩
theorem two_values {cs : Array Value} {u v : Value} (hsz : cs.size = 2) (d0 : cs.toList[0]? = some u) (d1 : cs.toList[1]? = some v) : cs = #[u, v] := by
 obtain ⟨l⟩ := cs
 match l, hsz with
 | [a, b], _ => simp at d0 d1; rw [d0, d1]
end
def noEv : Ev := ⟨0, []⟩
end Go.Proofs.YtdbgaccnejffpaaGreat.Trace

namespace Go.Proofs.YtdbgaccnejffpaaGreat.Mem
open Go.RowKit Go.ChangeShapes Go.WideShapes Go.Deep Go.Proofs.YtdbgaccnejffpaaGreat.Ints
section
variable {H : Type} {enc : TypeId × Value → H} {w : World}
set_option maxRecDepth 100000 in
theorem strs_trod {fuel len cap : Nat} {A : Option Addr} {x : DataW H × List MemPlace} (h : DataW.trod enc Tryz.prog w 0 (fun _ => true) true fuel 22 [.slice A len cap] = some x) :
  ∃ l : List (List UInt8), l.length = len ∧ Strs w A l ∧ (∀ s ∈ l, s.length ≤ maxLen) ∧ len ≤ cap ∧ cap ≤ maxLen := by
 rcases open_slice Tryz.underlying22 h with ⟨hcs, -⟩ | ⟨a, l', c', m, n, D, Pl, hcs, -, hl, hm, hmm, -, hi⟩
 ·simp at hcs
  obtain ⟨rfl, rfl, rfl⟩ := hcs
  exact ⟨[], rfl, Strs.nil _ _, fun s hs => by simp at hs, Nat.le_refl _, by decide⟩
 ·simp at hcs
  obtain ⟨rfl, rfl, rfl⟩ := hcs
  have hm' : m = cap := by simpa using hmm
  have cellsStr : Tryz.prog.cellsOf 9 = 1 := by kernel_rfl
  have hone : ∀ i, i < len → ∃ s : List UInt8, ∃ b off, a = ⟨b, off, none⟩ ∧ w.cell? ⟨b, off + i, none⟩ = some (strS s) ∧ s.length ≤ maxLen := fun i hi' => by
   obtain ⟨cs', hc, ht⟩ := hi i (by omega)
   rw [cellsStr] at hc
   obtain ⟨-, hcl, hat⟩ := World.cells?_some hc
   obtain ⟨b, off, spot⟩ := a
   have h0 := hat 0 (by omega)
   have hv : cs'[0]? = some (cs'[0]'(by omega)) := List.getElem?_eq_getElem (by omega)
   obtain ⟨nm, c1, -, w1⟩ := DataW.trod_string Tryz.underlying9 ht
   rw [hv] at h0
   have hc0 : cs'[0]'(by omega) = .string nm := by
    have h1 : cs'[0]? = some (.string nm) := by rw [c1]; rfl
    rw [hv] at h1
    exact Option.some.inj h1
   rw [hc0] at h0
   have e : (((⟨b, off, spot⟩ : Addr).add (i * 1)).add 0) = (⟨b, off, spot⟩ : Addr).add i := by unfold Addr.add; split <;> split <;> simp_all
   rw [e] at h0
   obtain ⟨cs0, hc0', -⟩ := hi 0 (by omega)
   rw [cellsStr] at hc0'
   obtain ⟨-, hcl0, hat0⟩ := World.cells?_some hc0'
   have hz := hat0 0 (by omega)
   have hv0 : cs0[0]? = some (cs0[0]'(by omega)) := List.getElem?_eq_getElem (by omega)
   rw [hv0, add_add] at hz
   have hspot : spot = none := by simpa [Addr.add] using World.cell?_spot hz
   subst hspot
   refine ⟨nm.data.toList, b, off, rfl, ?_, by rw [Array.length_toList]; exact w1⟩
   rw [← str_eta, ← h0]
   congr 1
   unfold Addr.add
   split <;> simp_all
  refine ⟨(List.range len).map fun i => if h : i < len then Classical.choose (hone i h) else [], by simp, fun h0 => ?_, fun s hs => ?_, hl, hm⟩
  ·simp only [List.length_map, List.length_range] at h0
   obtain ⟨-, b, off, rfl, -⟩ := hone 0 h0
   refine ⟨b, off, rfl, fun j n hn => ?_⟩
   have hj : j < len := by
    have := (List.getElem?_eq_some_iff.1 hn).1
    simpa using this
   simp only [List.getElem?_map, List.getElem?_range hj, Option.map_some, Option.some.injEq, dif_pos hj] at hn
   subst hn
   obtain ⟨b', off', e, hn, -⟩ := Classical.choose_spec (hone j hj)
   injection e with e1 e2
   subst e1; subst e2
   exact hn
  ·obtain ⟨i, hi', rfl⟩ := List.mem_map.1 hs
   have hj : i < len := by simpa using hi'
   rw [dif_pos hj]
   obtain ⟨b', off', -, -, hn⟩ := Classical.choose_spec (hone i hj)
   exact hn
end
end Go.Proofs.YtdbgaccnejffpaaGreat.Mem

namespace Go.Proofs.YtdbgaccnejffpaaGreat.Trace
open Go.RowKit Go.ChangeShapes Go.WideShapes Go.Deep Go.Proofs.YtdbgaccnejffpaaGreat.Ints Go.Proofs.YtdbgaccnejffpaaGreat.Mem
theorem structTrace : Tryz.prog.underlying 25 = some (.struct (Tryz.prog.fieldsOf 25)) := by kernel_rfl
theorem fieldsTrace : (Tryz.prog.fieldsOf 25).toList.map (fun f => (f.type, f.offset)) = [(22, 0), (23, 1)] := by kernel_rfl
theorem cellsTrace : Tryz.prog.cellsOf 25 = 2 := by kernel_rfl
theorem cellsNames : Tryz.prog.cellsOf 22 = 1 := by kernel_rfl
theorem cellsEvents : Tryz.prog.cellsOf 23 = 1 := by kernel_rfl
section
variable {H : Type} {enc : TypeId × Value → H} {w : World}
set_option maxRecDepth 100000 in
theorem events_trod {fuel len cap : Nat} {A : Option Addr} {x : DataW H × List MemPlace} (hf : DataW.trod enc Tryz.prog w 0 (fun _ => true) true fuel 23 [.slice A len cap] = some x) :
  ∃ l : List Ev, l.length = len ∧ Evs Any w A l ∧ len ≤ cap ∧ cap ≤ maxLen := by
 rcases open_slice Tryz.underlying23 hf with ⟨hcs, -⟩ | ⟨a, l', c', m, n, D, Pl, hcs, -, hl, hm, hmm, -, hi⟩
 ·simp at hcs
  obtain ⟨rfl, rfl, rfl⟩ := hcs
  exact ⟨[], rfl, fun h0 => by simp at h0, Nat.le_refl _, by decide⟩
 ·simp at hcs
  obtain ⟨rfl, rfl, rfl⟩ := hcs
  have hm' : m = cap := by simpa using hmm
  have hone : ∀ i, i < len → ∃ nd, ∃ b off, a = ⟨b, off, none⟩ ∧ EvAt Any w b (off + 2 * i) nd := fun i hi' => by
   obtain ⟨cs', hc, ht⟩ := hi i (by omega)
   rw [cellsEvent] at hc
   obtain ⟨-, hcl, hat⟩ := World.cells?_some hc
   obtain ⟨b, off, spot⟩ := a
   obtain ⟨cs0, hc0, -⟩ := hi 0 (by omega)
   rw [cellsEvent] at hc0
   obtain ⟨-, hcl0, hat0⟩ := World.cells?_some hc0
   have h0 := hat0 0 (by omega)
   have hv : cs0[0]? = some (cs0[0]'(by omega)) := List.getElem?_eq_getElem (by omega)
   rw [hv, add_add] at h0
   have hspot : spot = none := by simpa [Addr.add] using World.cell?_spot h0
   subst hspot
   obtain ⟨nd, hn⟩ := event_of (b := b) (o := off + 2 * i) ht (fun j hj => by
    rw [← hat j (by omega), add_add]
    congr 1
    unfold Addr.add
    split <;> simp_all <;> omega)
   exact ⟨nd, b, off, rfl, hn⟩
  refine ⟨(List.range len).map fun i => if h : i < len then Classical.choose (hone i h) else ⟨0, []⟩, by simp, fun h0 => ?_, hl, hm⟩
  simp only [List.length_map, List.length_range] at h0
  obtain ⟨-, b, off, rfl, -⟩ := hone 0 h0
  refine ⟨b, off, rfl, fun j n hn => ?_⟩
  have hj : j < len := by
   have := (List.getElem?_eq_some_iff.1 hn).1
   simpa using this
  simp only [List.getElem?_map, List.getElem?_range hj, Option.map_some, Option.some.injEq, dif_pos hj] at hn
  subst hn
  obtain ⟨b', off', e, hn⟩ := Classical.choose_spec (hone j hj)
  injection e with e1 e2
  subst e1; subst e2
  exact hn
structure Tr where
 names : List (List UInt8)
 events : List Ev
deriving DecidableEq
structure TrOk (S : Nat → Prop) (w : World) (NA : Option Addr) (nn nc : Nat) (EA : Option Addr) (ne ec : Nat) (t : Tr) : Prop where
 nlen : t.names.length = nn
 elen : t.events.length = ne
 names : Strs w NA t.names
 sizes : ∀ s ∈ t.names, s.length ≤ maxLen
 evs : Evs S w EA t.events
 ncap : nn ≤ nc ∧ nc ≤ maxLen
 ecap : ne ≤ ec ∧ ec ≤ maxLen
theorem TrOk.below {S : Nat → Prop} {w w' : World} {NA EA : Option Addr} {nn nc ne ec : Nat} {t : Tr} (h : TrOk S w NA nn nc EA ne ec t) (hb : Below w.heap.size w w') : TrOk S w' NA nn nc EA ne ec t :=
 ⟨h.1, h.2, h.3.below hb, h.4, h.5.below hb, h.6, h.7⟩
set_option maxRecDepth 100000 in
theorem trace_value {r : Reach} {b0 : Nat} {v : Value} {d : DataW H} {p : List MemPlace} (hv : Value.okWide Tryz.prog w r b0 25 v) (h : DataW.Trod enc Tryz.prog w 0 (fun _ => true) true 25 v d p) :
  ∃ (t : Tr) (NA : Option Addr) (nn nc : Nat) (EA : Option Addr) (ne ec : Nat), v = .agg #[.slice NA nn nc, .slice EA ne ec] ∧ TrOk Any w NA nn nc EA ne ec t := by
 obtain ⟨cs, rfl, hsz⟩ := okWide_struct structTrace hv
 obtain ⟨fuel, hf⟩ := h
 obtain ⟨ys, m, -, -, -, hlen, hf⟩ := DataW.trod_struct structTrace hf
 have hsz2 : (Tryz.prog.fieldsOf 25).size = 2 := by
  have := congrArg List.length fieldsTrace
  simpa using this
 obtain ⟨f0, g0, t0, o0⟩ := field_at fieldsTrace (i := 0) rfl
 obtain ⟨f1, g1, t1, o1⟩ := field_at fieldsTrace (i := 1) rfl
 obtain ⟨y0, e0⟩ : ∃ y, ys[0]? = some y := ⟨_, List.getElem?_eq_getElem (by omega)⟩
 obtain ⟨y1, e1⟩ : ∃ y, ys[1]? = some y := ⟨_, List.getElem?_eq_getElem (by omega)⟩
 have k0 := hf 0 f0 g0
 have k1 := hf 1 f1 g1
 rw [t0, o0, e0, cellsNames] at k0
 rw [t1, o1, e1, cellsEvents] at k1
 obtain ⟨NA, nn, nc, u0⟩ : ∃ A n c, ((Value.agg cs).cells.toList.drop 0).take 1 = [.slice A n c] := by
  rcases open_slice Tryz.underlying22 k0 with ⟨hcs, -⟩ | ⟨a, l', c', _, _, _, _, hcs, -⟩
  ·exact ⟨none, 0, 0, hcs⟩
  ·exact ⟨some a, l', c', hcs⟩
 obtain ⟨EA, ne, ec, u1⟩ : ∃ A n c, ((Value.agg cs).cells.toList.drop 1).take 1 = [.slice A n c] := by
  rcases open_slice Tryz.underlying23 k1 with ⟨hcs, -⟩ | ⟨a, l', c', _, _, _, _, hcs, -⟩
  ·exact ⟨none, 0, 0, hcs⟩
  ·exact ⟨some a, l', c', hcs⟩
 rw [u0] at k0
 rw [u1] at k1
 obtain ⟨ns, n1, n2, n3, n4⟩ := strs_trod k0
 obtain ⟨es, m1, m2, m3⟩ := events_trod k1
 exact ⟨⟨ns, es⟩, NA, nn, nc, EA, ne, ec, by rw [two_values (hsz.trans cellsTrace) (one_of u0) (one_of u1)], n1, m1, n2, n3, m2, n4, m3⟩
end
section
variable {P : Program} {w : World}
end
end Go.Proofs.YtdbgaccnejffpaaGreat.Trace

namespace Go.Proofs.YtdbgaccnejffpaaGreat.Trace
def IdGood (l : List Int) (props : Int) (i : Nat) : Prop := 0 ≤ l.getD i 0 ∧ l.getD i 0 < props ∧ (0 < i → l.getD (i - 1) 0 < l.getD i 0)
instance (l : List Int) (props : Int) (i : Nat) : Decidable (IdGood l props i) := by unfold IdGood; infer_instance
def idsOk (l : List Int) (props : Int) : Bool := decide (∀ i, i < l.length → IdGood l props i)
theorem ids_yes {l : List Int} {p : Int} (h : ∀ i, i < l.length → IdGood l p i) : idsOk l p = true := decide_eq_true h
theorem ids_no {l : List Int} {p : Int} {i : Nat} (hi : i < l.length) (h : ¬ IdGood l p i) : idsOk l p = false := decide_eq_false fun e => h (e i hi)
theorem good_more {p : Nat → Prop} {k : Nat} (h : ∀ i, i < k → p i) (hk : p k) : ∀ i, i < k + 1 → p i := fun i hi => by
 by_cases e : i = k
 ·exact e ▸ hk
 ·exact h i (by omega)
theorem idsOk_iff (l : List Int) (p : Int) : idsOk l p = true ↔ ∀ i, i < l.length → IdGood l p i := decide_eq_true_iff
end Go.Proofs.YtdbgaccnejffpaaGreat.Trace
