/-
  DERIVED: THE SHELF's CONTRACTS AT THIS DUMP, IN PLAIN WORDS (tools/lay-plain.mjs out of 'TryzShelf.lean', which tools/lay-shelf.mjs wrote): THE SAME DECLARATIONS UNDER THE SAME NAMES: 'import', 'namespace', 'open', 'def', 'theorem' AND NOTHING ELSE: no command of the shelf's: FOR A HAND-IN. Each laying: the table of numbers ('.._ren') and one theorem, a field a fact of the dump's own or the kernel's comparison; each contract: ONE APPLICATION.
  slices.Equal over ids, and the reference's SameEvent. By an AI agent.
  The walks of the landed package record: summed, Put. By an AI agent.
  The walks of the landed event and size. By an AI agent.
-/
import Derived.Shelf.Slices.Turned
import Derived.Shelf.Slices.Equal
import Derived.Ground.Names2Prog
import Derived.Shelf.Slices.Clone
import Derived.Shelf.Slices.Empties2
import Derived.Ground.SlbCloneProg
import Derived.Shelf.Bytes.SlClone
import Derived.Test.YtimbbfneaaglbaaGreatProg
import Derived.Test.YtimbbfneaaglbaaGreatGHeadsPlays2
import Derived.Test.YtimbbfneaaglbaaGreatGHeadsPlays11
import Derived.Test.YtimbbfneaaglbaaGreatGHeadsPlays7
namespace Go.Proofs
open Go.Shelf
def Tryz.lays109_ren : Go.Shelf.Ren := ⟨fun | 109 => 100 | n => n, fun | 31 => 30 | 9 => 9 | 3 => 3 | 0 => 0 | 4 => 4 | n => n, fun | n => n⟩
theorem Tryz.lays109 : Go.Proofs.Lays.n109 Tryz.prog Tryz.lays109_ren := {
  mixed := by kernel_rfl
  f109 := Tryz.func100.trans (congrArg some (by kernel_rfl))
  t0 := Tryz.underlying0
  a0 := Tryz.isAgg0
  z0 := Tryz.sizeOf0
  v0 := Tryz.zeroValue0
  t3 := Tryz.underlying3
  a3 := Tryz.isAgg3
  z3 := Tryz.sizeOf3
  v3 := Tryz.zeroValue3
  t4 := Tryz.underlying4
  a4 := Tryz.isAgg4
  z4 := Tryz.sizeOf4
  v4 := Tryz.zeroValue4
  t9 := Tryz.underlying9
  a9 := Tryz.isAgg9
  z9 := Tryz.sizeOf9
  v9 := Tryz.zeroValue9
  t31 := Tryz.underlying30
  a31 := Tryz.isAgg30
  z31 := Tryz.sizeOf30
  v31 := Tryz.zeroValue30 }
open Go.Lib in
/-- slices.Index at []string: "Index returns the index of the first occurrence of v in s, or -1 if not present.": IT RETURNS 'Lib.idxOfS (the elements) v'; the world is as it was. 'zs': what the cells behind the slice's address hold (its spare capacity too, if you have it); 'zs.take n': its elements. (LAID: no walk: one application.) -/
theorem Tryz.slices_Index_string (b off n c : Nat) (zs : List ByteArray) (x : ByteArray) (w : World) (hz : n ≤ zs.length) (hbig : n ≤ 9223372036854775807) (hc : ∀ j, j < zs.length → w.cell? ⟨b, off + j, none⟩ = some (.string (zs.getD j ByteArray.empty))) :
    Calls Tryz.prog 100 #[.slice (some ⟨b, off, none⟩) n c, .string x] w fun e w' => e = .returned (.int .i64 (Lib.idxOfS (zs.take n) x)) ∧ w' = w := Any.slices_Index_string Tryz.lays109 b off n c zs x w hz hbig hc
open Go.Lib in
/-- The same at a slice of length 0, a nil one too: no cell is known, none is asked for. (LAID: no walk: one application.) -/
theorem Tryz.slices_Index_string_empty (a : Option Addr) (c : Nat) (x : ByteArray) (w : World) :
    Calls Tryz.prog 100 #[.slice a 0 c, .string x] w fun e w' => e = .returned (.int .i64 (Lib.idxOfS [] x)) ∧ w' = w := Any.slices_Index_string_empty Tryz.lays109 a c x w
def Tryz.lays110_ren : Go.Shelf.Ren := ⟨fun | 110 => 81 | 109 => 100 | n => n, fun | 31 => 30 | 9 => 9 | 4 => 4 | 3 => 3 | 0 => 0 | n => n, fun | n => n⟩
theorem Tryz.lays110 : Go.Proofs.Lays.n110 Tryz.prog Tryz.lays110_ren := {
  mixed := by kernel_rfl
  f109 := Tryz.func100.trans (congrArg some (by kernel_rfl))
  f110 := Tryz.func81.trans (congrArg some (by kernel_rfl))
  t0 := Tryz.underlying0
  a0 := Tryz.isAgg0
  z0 := Tryz.sizeOf0
  v0 := Tryz.zeroValue0
  t3 := Tryz.underlying3
  a3 := Tryz.isAgg3
  z3 := Tryz.sizeOf3
  v3 := Tryz.zeroValue3
  t4 := Tryz.underlying4
  a4 := Tryz.isAgg4
  z4 := Tryz.sizeOf4
  v4 := Tryz.zeroValue4
  t9 := Tryz.underlying9
  a9 := Tryz.isAgg9
  z9 := Tryz.sizeOf9
  v9 := Tryz.zeroValue9
  t31 := Tryz.underlying30
  a31 := Tryz.isAgg30
  z31 := Tryz.sizeOf30
  v31 := Tryz.zeroValue30 }
open Go.Lib in
/-- slices.Contains at []string: "Contains reports whether v is present in s.": IT RETURNS 'Lib.containsS (the elements) v', which is true just where v is among them ('Lib.containsS_iff'); the world is as it was. ITS CALLEE slices.Index IS MET BY ITS OWN CONTRACT OFF THE SHELF (lay that first): no loop is walked here. (LAID: no walk: one application.) -/
theorem Tryz.slices_Contains_string (b off n c : Nat) (zs : List ByteArray) (x : ByteArray) (w : World) (hz : n ≤ zs.length) (hbig : n ≤ 9223372036854775807) (hc : ∀ j, j < zs.length → w.cell? ⟨b, off + j, none⟩ = some (.string (zs.getD j ByteArray.empty))) :
    Calls Tryz.prog 81 #[.slice (some ⟨b, off, none⟩) n c, .string x] w fun e w' => e = .returned (.bool (Lib.containsS (zs.take n) x)) ∧ w' = w := Any.slices_Contains_string Tryz.lays110 b off n c zs x w hz hbig hc
open Go.Lib in
/-- The same at a slice of length 0, a nil one too. (LAID: no walk: one application.) -/
theorem Tryz.slices_Contains_string_empty (a : Option Addr) (c : Nat) (x : ByteArray) (w : World) :
    Calls Tryz.prog 81 #[.slice a 0 c, .string x] w fun e w' => e = .returned (.bool false) ∧ w' = w := Any.slices_Contains_string_empty Tryz.lays110 a c x w
def Tryz.lays111_ren : Go.Shelf.Ren := ⟨fun | 111 => 79 | n => n, fun | 28 => 24 | 3 => 3 | 4 => 4 | 0 => 0 | n => n, fun | n => n⟩
theorem Tryz.lays111 : Go.Proofs.Lays.n111 Tryz.prog Tryz.lays111_ren := {
  mixed := by kernel_rfl
  f111 := Tryz.func79.trans (congrArg some (by kernel_rfl))
  t0 := Tryz.underlying0
  a0 := Tryz.isAgg0
  z0 := Tryz.sizeOf0
  v0 := Tryz.zeroValue0
  t3 := Tryz.underlying3
  a3 := Tryz.isAgg3
  z3 := Tryz.sizeOf3
  v3 := Tryz.zeroValue3
  t4 := Tryz.underlying4
  a4 := Tryz.isAgg4
  z4 := Tryz.sizeOf4
  v4 := Tryz.zeroValue4
  t28 := Tryz.underlying24
  a28 := Tryz.isAgg24
  z28 := Tryz.sizeOf24
  v28 := Tryz.zeroValue24 }
open Go.RowKit Go.Lib in
/-- slices.Equal at []int: "Equal reports whether two slices are equal: the same length and all elements equal. If the lengths are different, Equal returns false. Otherwise, the elements are compared in increasing index order, and the comparison stops at the first unequal pair. Empty and nil slices are considered equal.": IT RETURNS WHETHER THE TWO LISTS OF ELEMENTS ARE ONE; the world is as it was but for the count of draws (the test 's1[i] != s2[i]' has two reads, whose order the model draws, once a round). 'xs', 'ys': what the cells behind the two addresses hold (the spare capacity too, if you have it); 'xs.take n', 'ys.take m': the elements. THE TWO SLICES MAY OVERLAP. (LAID: no walk: one application.) -/
theorem Tryz.slices_Equal_int (b1 o1 n c b2 o2 m d : Nat) (xs ys : List Int) (w : World) (hx : n ≤ xs.length) (hy : m ≤ ys.length) (hbig : n ≤ 9223372036854775807) (hbig2 : m ≤ 9223372036854775807) (hc1 : ∀ j, j < xs.length → w.cell? ⟨b1, o1 + j, none⟩ = some (.int .i64 (xs.getD j 0))) (hc2 : ∀ j, j < ys.length → w.cell? ⟨b2, o2 + j, none⟩ = some (.int .i64 (ys.getD j 0))) :
    Calls Tryz.prog 79 #[.slice (some ⟨b1, o1, none⟩) n c, .slice (some ⟨b2, o2, none⟩) m d] w fun e w' => e = .returned (.bool (xs.take n == ys.take m)) ∧ ∃ q, w' = w.drewN q := Any.slices_Equal_int Tryz.lays111 b1 o1 n c b2 o2 m d xs ys w hx hy hbig hbig2 hc1 hc2
open Go.RowKit Go.Lib in
/-- The same where the first is of length 0 (a nil one too): no cell is asked for. (LAID: no walk: one application.) -/
theorem Tryz.slices_Equal_int_empty (a1 a2 : Option Addr) (c m d : Nat) (w : World) (hbig2 : m ≤ 9223372036854775807) :
    Calls Tryz.prog 79 #[.slice a1 0 c, .slice a2 m d] w fun e w' => e = .returned (.bool (decide (m = 0))) ∧ w' = w := Any.slices_Equal_int_empty Tryz.lays111 a1 a2 c m d w hbig2
def Tryz.lays193_ren : Go.Shelf.Ren := ⟨fun | 193 => 19 | n => n, fun | 31 => 30 | 9 => 9 | 4 => 4 | 3 => 3 | 0 => 0 | n => n, fun | n => n⟩
theorem Tryz.lays193 : Go.Proofs.Lays.n193 Tryz.prog Tryz.lays193_ren := {
  mixed := by kernel_rfl
  f193 := Tryz.func19.trans (congrArg some (by kernel_rfl))
  t0 := Tryz.underlying0
  a0 := Tryz.isAgg0
  z0 := Tryz.sizeOf0
  v0 := Tryz.zeroValue0
  t3 := Tryz.underlying3
  a3 := Tryz.isAgg3
  z3 := Tryz.sizeOf3
  v3 := Tryz.zeroValue3
  t4 := Tryz.underlying4
  a4 := Tryz.isAgg4
  z4 := Tryz.sizeOf4
  v4 := Tryz.zeroValue4
  t9 := Tryz.underlying9
  a9 := Tryz.isAgg9
  z9 := Tryz.sizeOf9
  v9 := Tryz.zeroValue9
  t31 := Tryz.underlying30
  a31 := Tryz.isAgg30
  z31 := Tryz.sizeOf30
  v31 := Tryz.zeroValue30 }
open Go.RowKit Go.Lib in
/-- slices.Equal at []string: "Equal reports whether two slices are equal: the same length and all elements equal. If the lengths are different, Equal returns false. Otherwise, the elements are compared in increasing index order, and the comparison stops at the first unequal pair. Empty and nil slices are considered equal.": IT RETURNS WHETHER THE TWO LISTS OF ELEMENTS ARE ONE; the world is as it was but for the count of draws (the test 's1[i] != s2[i]' has two reads, whose order the model draws, once a round). 'xs', 'ys': what the cells behind the two addresses hold (the spare capacity too, if you have it); 'xs.take n', 'ys.take m': the elements. THE TWO SLICES MAY OVERLAP. (LAID: no walk: one application.) -/
theorem Tryz.slices_Equal_string (b1 o1 n c b2 o2 m d : Nat) (xs ys : List ByteArray) (w : World) (hx : n ≤ xs.length) (hy : m ≤ ys.length) (hbig : n ≤ 9223372036854775807) (hbig2 : m ≤ 9223372036854775807) (hc1 : ∀ j, j < xs.length → w.cell? ⟨b1, o1 + j, none⟩ = some (.string (xs.getD j ByteArray.empty))) (hc2 : ∀ j, j < ys.length → w.cell? ⟨b2, o2 + j, none⟩ = some (.string (ys.getD j ByteArray.empty))) :
    Calls Tryz.prog 19 #[.slice (some ⟨b1, o1, none⟩) n c, .slice (some ⟨b2, o2, none⟩) m d] w fun e w' => e = .returned (.bool (decide (xs.take n = ys.take m))) ∧ ∃ q, w' = w.drewN q := Any.slices_Equal_string Tryz.lays193 b1 o1 n c b2 o2 m d xs ys w hx hy hbig hbig2 hc1 hc2
open Go.RowKit Go.Lib in
/-- The same where the first is of length 0 (a nil one too): no cell is asked for. (LAID: no walk: one application.) -/
theorem Tryz.slices_Equal_string_empty (a1 a2 : Option Addr) (c m d : Nat) (w : World) (hbig2 : m ≤ 9223372036854775807) :
    Calls Tryz.prog 19 #[.slice a1 0 c, .slice a2 m d] w fun e w' => e = .returned (.bool (decide (m = 0))) ∧ w' = w := Any.slices_Equal_string_empty Tryz.lays193 a1 a2 c m d w hbig2
def Tryz.laysNm215_ren : Go.Shelf.Ren := ⟨fun | 15 => 58 | n => n, fun | 22 => 24 | 3 => 3 | 4 => 4 | n => n, fun | n => n⟩
theorem Tryz.laysNm215 : Go.Proofs.Lays2.n15 Tryz.prog Tryz.laysNm215_ren := {
  mixed := by kernel_rfl
  f15 := Tryz.func58.trans (congrArg some (by kernel_rfl))
  t3 := Tryz.underlying3
  a3 := Tryz.isAgg3
  z3 := Tryz.sizeOf3
  v3 := Tryz.zeroValue3
  t4 := Tryz.underlying4
  a4 := Tryz.isAgg4
  z4 := Tryz.sizeOf4
  v4 := Tryz.zeroValue4
  t22 := Tryz.underlying24
  a22 := Tryz.isAgg24
  z22 := Tryz.sizeOf24
  v22 := Tryz.zeroValue24
  i3 := by kernel_rfl }
open Go.RowKit Go.Lib in
/-- slices.Clone at []int: "Clone returns a copy of the slice. The elements are copied using assignment, so this is a shallow clone. The result may have additional unused capacity. The result preserves the nilness of s.": OF A SLICE THAT IS NOT nil IT RETURNS A SLICE THAT IS NOT nil, OF THE SAME ELEMENTS, IN MEMORY OF THE CALL's OWN: in the how-to's words (6f): 'w'.ownsRow B e 1 v' n cells': v' begins at the head of a row among the blocks from B on (B: the heap's size at the call), not frozen, whose first cells are the elements · 'Below B w w'': below B all is as it was. The capacity is whatever the run-time gives. 'zs': what the cells behind the slice's address hold; 'zs.take n': its elements. (LAID: no walk: one application.) -/
theorem Tryz.slices_Clone_int (b off n c : Nat) (zs : List Int) (w : World) (hz : n ≤ zs.length) (hbig : n * 8 ≤ 140737488355328) (hc : ∀ j, j < zs.length → w.cell? ⟨b, off + j, none⟩ = some (.int .i64 (zs.getD j 0))) :
    Calls Tryz.prog 58 #[.slice (some ⟨b, off, none⟩) n c] w fun e w' => ∃ v', e = .returned v' ∧ w'.ownsRow w.heap.size 3 1 v' n ((zs.take n).map (Value.int .i64)) ∧ v' ≠ .slice none 0 0 ∧ Below w.heap.size w w' := Any.slices_Clone_int Tryz.laysNm215 b off n c zs w hz hbig hc
open Go.RowKit Go.Lib in
/-- The same at nil: nil comes back; the world is as it was. (LAID: no walk: one application.) -/
theorem Tryz.slices_Clone_int_nil (n c : Nat) (w : World) :
    Calls Tryz.prog 58 #[.slice none n c] w fun e w' => e = .returned (.slice none 0 0) ∧ w' = w := Any.slices_Clone_int_nil Tryz.laysNm215 n c w
def Tryz.laysNm216_ren : Go.Shelf.Ren := ⟨fun | 16 => 44 | n => n, fun | 24 => 30 | 9 => 9 | 4 => 4 | n => n, fun | n => n⟩
theorem Tryz.laysNm216 : Go.Proofs.Lays2.n16 Tryz.prog Tryz.laysNm216_ren := {
  mixed := by kernel_rfl
  f16 := Tryz.func44.trans (congrArg some (by kernel_rfl))
  t4 := Tryz.underlying4
  a4 := Tryz.isAgg4
  z4 := Tryz.sizeOf4
  v4 := Tryz.zeroValue4
  t9 := Tryz.underlying9
  a9 := Tryz.isAgg9
  z9 := Tryz.sizeOf9
  v9 := Tryz.zeroValue9
  t24 := Tryz.underlying30
  a24 := Tryz.isAgg30
  z24 := Tryz.sizeOf30
  v24 := Tryz.zeroValue30
  i9 := by kernel_rfl }
open Go.RowKit Go.Lib in
/-- slices.Clone at []string: "Clone returns a copy of the slice. The elements are copied using assignment, so this is a shallow clone. The result may have additional unused capacity. The result preserves the nilness of s.": OF A SLICE THAT IS NOT nil IT RETURNS A SLICE THAT IS NOT nil, OF THE SAME ELEMENTS, IN MEMORY OF THE CALL's OWN: in the how-to's words (6f): 'w'.ownsRow B e 1 v' n cells': v' begins at the head of a row among the blocks from B on (B: the heap's size at the call), not frozen, whose first cells are the elements · 'Below B w w'': below B all is as it was. The capacity is whatever the run-time gives. 'zs': what the cells behind the slice's address hold; 'zs.take n': its elements. (LAID: no walk: one application.) -/
theorem Tryz.slices_Clone_string (b off n c : Nat) (zs : List ByteArray) (w : World) (hz : n ≤ zs.length) (hbig : n * 16 ≤ 140737488355328) (hc : ∀ j, j < zs.length → w.cell? ⟨b, off + j, none⟩ = some (.string (zs.getD j ByteArray.empty))) :
    Calls Tryz.prog 44 #[.slice (some ⟨b, off, none⟩) n c] w fun e w' => ∃ v', e = .returned v' ∧ w'.ownsRow w.heap.size 9 1 v' n ((zs.take n).map (Value.string)) ∧ v' ≠ .slice none 0 0 ∧ Below w.heap.size w w' := Any.slices_Clone_string Tryz.laysNm216 b off n c zs w hz hbig hc
open Go.RowKit Go.Lib in
/-- The same at nil: nil comes back; the world is as it was. (LAID: no walk: one application.) -/
theorem Tryz.slices_Clone_string_nil (n c : Nat) (w : World) :
    Calls Tryz.prog 44 #[.slice none n c] w fun e w' => e = .returned (.slice none 0 0) ∧ w' = w := Any.slices_Clone_string_nil Tryz.laysNm216 n c w
open Go.RowKit Go.Lib in
/-- The same at a slice of length 0 that is not nil, WHATEVER ITS ADDRESS (no cell is asked for): a slice that is not nil and owns nothing comes back. (LAID: no walk: one application.) -/
theorem Tryz.slices_Clone_int_zero (a : Addr) (c : Nat) (w : World) :
    Calls Tryz.prog 58 #[.slice (some a) 0 c] w fun e w' => ∃ v', e = .returned v' ∧ w'.ownsRow w.heap.size 3 1 v' 0 [] ∧ v' ≠ .slice none 0 0 ∧ Below w.heap.size w w' := Any.slices_Clone_int_zero Tryz.laysNm215 a c w
open Go.RowKit Go.Lib in
/-- The same at a slice of length 0 that is not nil, WHATEVER ITS ADDRESS (no cell is asked for): a slice that is not nil and owns nothing comes back. (LAID: no walk: one application.) -/
theorem Tryz.slices_Clone_string_zero (a : Addr) (c : Nat) (w : World) :
    Calls Tryz.prog 44 #[.slice (some a) 0 c] w fun e w' => ∃ v', e = .returned v' ∧ w'.ownsRow w.heap.size 9 1 v' 0 [] ∧ v' ≠ .slice none 0 0 ∧ Below w.heap.size w w' := Any.slices_Clone_string_zero Tryz.laysNm216 a c w
open Go.RowKit Go.Lib in
theorem Tryz.slices_Equal_int_lens (a1 a2 : Option Addr) (n c m d : Nat) (w : World) (hnm : n ≠ m) :
    Calls Tryz.prog 79 #[.slice a1 n c, .slice a2 m d] w fun e w' => e = .returned (.bool false) ∧ w' = w := Any.slices_Equal_int_lens Tryz.lays111 a1 a2 n c m d w hnm
open Go.RowKit Go.Lib in
theorem Tryz.slices_Equal_string_lens (a1 a2 : Option Addr) (n c m d : Nat) (w : World) (hnm : n ≠ m) :
    Calls Tryz.prog 19 #[.slice a1 n c, .slice a2 m d] w fun e w' => e = .returned (.bool false) ∧ w' = w := Any.slices_Equal_string_lens Tryz.lays193 a1 a2 n c m d w hnm
def Tryz.laysSlK4_ren : Go.Shelf.Ren := ⟨fun | 4 => 57 | n => n, fun | 22 => 28 | 4 => 4 | 5 => 5 | n => n, fun | n => n⟩
theorem Tryz.laysSlK4 : Go.Proofs.SlLaysK.n4 Tryz.prog Tryz.laysSlK4_ren := {
  mixed := by kernel_rfl
  f4 := Tryz.func57.trans (congrArg some (by kernel_rfl))
  t4 := Tryz.underlying4
  a4 := Tryz.isAgg4
  z4 := Tryz.sizeOf4
  v4 := Tryz.zeroValue4
  t22 := Tryz.underlying28
  a22 := Tryz.isAgg28
  z22 := Tryz.sizeOf28
  v22 := Tryz.zeroValue28
  t5 := Tryz.underlying5
  i5 := by kernel_rfl }
open Go.RowKit Go.Lib in
/-- bytes.Clone: "Clone returns a copy of b[:len(b)]. The result may have additional unused capacity.": OF A SLICE THAT IS NOT nil IT RETURNS A SLICE THAT IS NOT nil, OF THE SAME BYTES, IN MEMORY OF THE CALL's OWN: in the how-to's words (6f): 'w'.ownsRow B e 1 v' n cells' · 'Below B w w'', B the heap's size at the call. b AT WHATEVER ADDRESS, its cells as 'open_ints' hands them ('a.add i'; the numbers 'xs'). No byte: no cell is asked for. (LAID: no walk: one application.) -/
theorem Tryz.bytes_Clone_at (a : Addr) (n c : Nat) (xs : List Int) (w : World) (hx : xs.length = n) (hbig : n ≤ 140737488355328) (hc : ∀ i, i < n → w.cell? (a.add i) = some (.int .u8 (xs.getD i 0))) :
    Calls Tryz.prog 57 #[.slice (some a) n c] w fun e w' => ∃ v', e = .returned v' ∧ w'.ownsRow w.heap.size 5 1 v' n (xs.map (Value.int .u8)) ∧ v' ≠ .slice none 0 0 ∧ Below w.heap.size w w' := Any.bytes_Clone_at Tryz.laysSlK4 a n c xs w hx hbig hc
open Go.RowKit Go.Lib in
/-- "Clone(nil) returns nil.": the world is as it was. (LAID: no walk: one application.) -/
theorem Tryz.bytes_Clone_nil (n c : Nat) (w : World) :
    Calls Tryz.prog 57 #[.slice none n c] w fun e w' => e = .returned (.slice none 0 0) ∧ w' = w := Any.bytes_Clone_nil Tryz.laysSlK4 n c w
end Go.Proofs

namespace Go.Proofs.YtimbbfneaaglbaaGreat.Trace
open Go.RowKit Go.Proofs.YtimbbfneaaglbaaGreat.Ints Go.Proofs.YtimbbfneaaglbaaGreat.Mem

theorem equalInts (K1 K2 : Option Addr) (n1 c1 n2 c2 : Nat) (l1 l2 : List Int) (w : World) (h1 : Rd .i64 w K1 n1 l1) (h2 : Rd .i64 w K2 n2 l2) (hb1 : n1 ≤ maxLen) (hb2 : n2 ≤ maxLen) :
    Calls Tryz.prog 79 #[.slice K1 n1 c1, .slice K2 n2 c2] w fun e w' => e = .returned (.bool (decide (l1 = l2))) ∧ ∃ q, w' = w.drewN q := by
  have hm : maxLen = 9223372036854775807 := rfl
  by_cases hn : n1 = n2
  · subst hn
    by_cases h0 : n1 = 0
    · subst h0
      have e1 : l1 = [] := List.eq_nil_of_length_eq_zero h1.len
      have e2 : l2 = [] := List.eq_nil_of_length_eq_zero h2.len
      subst e1; subst e2
      exact (Tryz.slices_Equal_int_empty K1 K2 c1 0 c2 w (by omega)).mono fun e w' ⟨he, hw⟩ => ⟨he, 0, hw⟩
    · obtain ⟨b1, o1, rfl, k1⟩ := h1.cell (by omega)
      obtain ⟨b2, o2, rfl, k2⟩ := h2.cell (by omega)
      refine (Tryz.slices_Equal_int b1 o1 n1 c1 b2 o2 n1 c2 l1 l2 w (by rw [h1.len]; exact Nat.le_refl _) (by rw [h2.len]; exact Nat.le_refl _) (by omega) (by omega) (fun j hj => by have := k1 j (by rw [← h1.len]; exact hj); simpa [List.getD] using this) (fun j hj => by have := k2 j (by rw [← h2.len]; exact hj); simpa [List.getD] using this)).mono fun e w' ⟨he, hw⟩ => ⟨?_, hw⟩
      rw [he, List.take_of_length_le (by rw [h1.len]; exact Nat.le_refl _), List.take_of_length_le (by rw [h2.len]; exact Nat.le_refl _)]
      congr 2
      rw [Bool.eq_iff_iff, beq_iff_eq, decide_eq_true_iff]
  · have hne : decide (l1 = l2) = false := by
      rw [decide_eq_false_iff_not]
      intro e
      exact hn (by rw [← h1.len, ← h2.len, e])
    rw [hne]
    exact (Tryz.slices_Equal_int_lens K1 K2 n1 c1 n2 c2 w hn).mono fun e w' ⟨he, hw⟩ => ⟨he, 0, hw⟩

set_option maxHeartbeats 4000000 in
set_option maxRecDepth 100000 in
theorem refSameEvent (x y : Ev) (K1 K2 : Option Addr) (c1 c2 : Nat) (w : World) (hx : EvOk w x K1 c1) (hy : EvOk w y K2 c2) :
    Calls Tryz.prog 50 #[.agg #[.int .u64 x.time, .slice K1 x.ids.length c1], .agg #[.int .u64 y.time, .slice K2 y.ids.length c2]] w fun e w' => e = .returned (.bool (decide (x = y))) ∧ Below w.heap.size w w' := by
  have hE := fun W (hb : Below w.heap.size w W) => equalInts K1 K2 x.ids.length c1 y.ids.length c2 x.ids y.ids W (hx.2.1.below hb) (hy.2.1.below hb) (Nat.le_trans hx.2.2.1 hx.2.2.2) (Nat.le_trans hy.2.2.1 hy.2.2.2)
  have HX := Lib.hid hx
  obtain ⟨n1, hn1⟩ : ∃ n, x.ids.length = n := ⟨_, rfl⟩
  obtain ⟨n2, hn2⟩ : ∃ n, y.ids.length = n := ⟨_, rfl⟩
  obtain ⟨hx1, hx2⟩ := wf_u64 hx.1
  obtain ⟨hy1, hy2⟩ := wf_u64 hy.1
  rw [ev_eq, ← int_beq]
  rw [hn1, hn2] at hE ⊢
  obtain ⟨a, ha⟩ : ∃ a, x.time = a := ⟨_, rfl⟩
  obtain ⟨b, hb⟩ : ∃ b, y.time = b := ⟨_, rfl⟩
  rw [ha] at hx1 hx2
  rw [hb] at hy1 hy2
  rw [ha, hb]
  obtain ⟨r, hr⟩ : ∃ r, decide (x.ids = y.ids) = r := ⟨_, rfl⟩
  rw [hr] at hE ⊢
  have HE := Lib.hid hE
  clear hE hr hn1 hn2 hx hy ha hb
  rcases hab : (a == b)
  · go_enter Tryz.func50, Tryz.ntmps50
    go_wp2
    go_ret
    exact ⟨rfl, ((Below.refl _ _).alloc (Nat.le_refl _) _).alloc (le_alloc (Nat.le_refl _)) _⟩
  · go_enter Tryz.func50, Tryz.ntmps50
    go_wp2_with (go_at_call 79; refine (HE.out _ (((Below.refl _ _).alloc (Nat.le_refl _) _).alloc (le_alloc (Nat.le_refl _)) _)).mono ?_; rintro e w' ⟨rfl, q, rfl⟩)
    go_ret
    exact ⟨by simp, below_drewN (((Below.refl _ _).alloc (Nat.le_refl _) _).alloc (le_alloc (Nat.le_refl _)) _) _⟩

end Go.Proofs.YtimbbfneaaglbaaGreat.Trace

namespace Go.Proofs.YtimbbfneaaglbaaGreat.Record
open Go.RowKit Go.Proofs.YtimbbfneaaglbaaGreat.Ints Go.Proofs.YtimbbfneaaglbaaGreat.Mem Go.Proofs.YtimbbfneaaglbaaGreat.SumMath Go.Proofs.YtimbbfneaaglbaaGreat.SumWalks Go.Proofs.YtimbbfneaaglbaaGreat.Trace

/-- An event's box. -/
def boxE (w : World) (x : Ev) (K : Option Addr) (c : Nat) : World := w.alloc (.cells #[.int .u64 x.time, .slice K x.ids.length c] 38)
theorem boxE_at {w W : World} {x : Ev} {K : Option Addr} {c : Nat} (hb : Below (w.heap.size + 1) (boxE w x K c) W) :
    W.cell? ⟨w.heap.size, 0, none⟩ = some (.int .u64 x.time) ∧ W.cell? ⟨w.heap.size, 1, none⟩ = some (.slice K x.ids.length c) :=
  ⟨(hb.cell (p := ⟨w.heap.size, 0, none⟩) (Nat.lt_succ_self _)).trans (box_cell 0 _ rfl), (hb.cell (p := ⟨w.heap.size, 1, none⟩) (Nat.lt_succ_self _)).trans (box_cell 1 _ rfl)⟩
theorem boxE_below {w W : World} {x : Ev} {K : Option Addr} {c : Nat} (hb : Below (w.heap.size + 1) (boxE w x K c) W) : Below w.heap.size w W :=
  ((Below.refl _ w).alloc (Nat.le_refl _) _).trans (hb.mono (Nat.le_succ _))
theorem boxE_size (w : World) (x : Ev) (K : Option Addr) (c : Nat) : (boxE w x K c).heap.size = w.heap.size + 1 := by simp [boxE]
theorem getD_opt (l : List Int) (k : Nat) : l.getD k 0 = l[k]?.getD 0 := by simp [List.getD]

set_option maxHeartbeats 4000000 in
set_option maxRecDepth 100000 in
theorem landSummed (x : Ev) (K : Option Addr) (c : Nat) (w : World) (hx : EvOk w x K c) (hids : idsOk x.ids 64 = true) :
    Calls Tryz.prog 68 #[.agg #[.int .u64 x.time, .slice K x.ids.length c]] w (Made w (10 + x.ids.length) (bodyR x)) := by
  obtain ⟨i0, hi, hz0, hz1, hz2⟩ := info_parts info5'
  obtain ⟨ht0, ht1⟩ := wf_u64 hx.1
  have hcnt := ids_count hids
  have HX := Lib.hid hx
  have HI := Lib.hid (ids_bytes hids)
  obtain ⟨n, hn⟩ : ∃ n, x.ids.length = n := ⟨_, rfl⟩
  have HN := Lib.hid hn
  obtain ⟨b0, b1⟩ := boxE_at (Below.refl (w.heap.size + 1) (boxE w x K c))
  have hW : w.alloc (.cells #[.int .u64 x.time, .slice K x.ids.length c] 38) = boxE w x K c := rfl
  have hs1 := boxE_size w x K c
  rw [hn] at hW b1 hcnt ⊢
  have hn64 : n ≤ 64 := by omega
  have c1 : (8 : Int) + (n : Int) ≤ 72 := by omega
  obtain ⟨W1, hW1⟩ : ∃ W1, boxE w x K c = W1 := ⟨_, rfl⟩
  have HW1 := Lib.hid hW1
  rw [hW1] at hW hs1 b0 b1
  have f1 := landWrite2 (.slice none 0 0) 0 [] (8 + (n : Int)) (w.heap.size + 1) W1 (by omega) (by omega) (World.ownsRow_nil _ _ _ _) (by omega) (by omega)
  have F1 := Lib.hid f1
  clear f1 hx hids hW1 hn hcnt
  go_enter Tryz.func68, Tryz.ntmps68
  go_wp2_with fail
  clear hW
  refine F1.out.mono ?_
  rintro e w1 ⟨v1, rfl, hown1, hB1⟩
  have d0 := (hB1.cell (p := ⟨w.heap.size, 0, none⟩) (Nat.lt_succ_self _)).trans b0
  have d1 := (hB1.cell (p := ⟨w.heap.size, 1, none⟩) (Nat.lt_succ_self _)).trans b1
  have hz1' := hB1.size
  clear b0 b1
  have F2 := Lib.hid (landWrite8 v1 2 (be2 (8 + (n : Int))) x.time (w.heap.size + 1) w1 ht0 ht1 (by simpa using hown1) (by omega) (by omega))
  go_wp2_with fail
  refine F2.out.mono ?_
  rintro e w2 ⟨v2, rfl, hown2, hB2⟩
  have e0 := (hB2.cell (p := ⟨w.heap.size, 0, none⟩) (Nat.lt_succ_self _)).trans d0
  have e1 := (hB2.cell (p := ⟨w.heap.size, 1, none⟩) (Nat.lt_succ_self _)).trans d1
  have HB12 := Lib.hid (hB1.trans hB2)
  clear d0 d1 F1 F2 hown1 hB1
  go_wp2_with fail
  go_loopw [3, 19] (fun v i wr => ∃ k : Nat, k ≤ n ∧ i = .int .i64 k ∧ wr.ownsRow (w.heap.size + 1) 5 1 v (10 + k) ((be2 (8 + (n : Int)) ++ be8 x.time ++ x.ids.take k).map (Value.int .u8)) ∧ Below (w.heap.size + 1) W1 wr) (fun _ i _ => n - (intOf i).toNat)
  case atStart => exact ⟨0, Nat.zero_le _, rfl, by simpa using hown2, HB12.out⟩
  case round =>
    obtain ⟨k, hk, rfl, hrow, hBr⟩ := hrel
    have hBs : w.heap.size + 1 ≤ wr.heap.size := by have := hBr.size; omega
    have hbw : Below w.heap.size w wr := boxE_below (by rw [HW1.out]; exact hBr)
    clear e0 e1 hown2 hB2
    by_cases hkn : k < n
    · obtain ⟨b, off, e, hc⟩ := (HX.out.2.1.below hbw).cell (by rw [HN.out]; omega)
      have x0 := hc k (by rw [HN.out]; omega)
      subst e
      obtain ⟨z, hz⟩ : ∃ z, x.ids[k]?.getD 0 = z := ⟨_, rfl⟩
      have hkl : k < x.ids.length := by rw [HN.out]; exact hkn
      have hb := HI.out z (by rw [← hz, List.getElem?_eq_getElem hkl]; exact List.getElem_mem hkl)
      have HS := Lib.hid (take_snoc x.ids k hkl)
      rw [hz] at x0
      have HZ := Lib.hid hz
      have hb0 := hb.1
      have hb1 := hb.2
      clear hc hz hb
      go_wp2_with (at_builtin; refine wpList_append_ints rfl _ _ 28 rfl .u8 (w.heap.size + 1) 5 i0 1 Tryz.underlying28 hi hz0 hz1 hz2 _ _ _ rfl (hrow.alloc _) _ 1 1 [z] rfl (Rd.lit wr 5 (0, 0) [z] (one_byte (by omega))) (by have : maxLen = 9223372036854775807 := rfl; omega) (by omega) (le_alloc hBs) ?_; intro v2 w2 hown2 hgr2)
      go_roundw
      case rel => exact ⟨k + 1, by omega, by go_num, row_more (by omega) (by rw [HS.out, HZ.out]; simp) hown2, (hBr.alloc hBs _).grown hgr2 (le_alloc hBs) (fun z hz => (hrow.lt z hz).1)⟩
      case measure => simp [intOf]; omega
    · obtain rfl : k = n := by omega
      go_wp2
      go_ret
      refine ⟨_, rfl, row_more rfl ?_ (own_weaken hrow (Nat.le_succ _)), hbw⟩
      rw [List.take_of_length_le (by rw [HN.out]; omega)]
      unfold bodyR
      rw [HN.out]
end Go.Proofs.YtimbbfneaaglbaaGreat.Record

namespace Go.Proofs.YtimbbfneaaglbaaGreat.Record
open Go.RowKit Go.Proofs.YtimbbfneaaglbaaGreat.Ints Go.Proofs.YtimbbfneaaglbaaGreat.Mem Go.Proofs.YtimbbfneaaglbaaGreat.SumMath Go.Proofs.YtimbbfneaaglbaaGreat.SumWalks Go.Proofs.YtimbbfneaaglbaaGreat.Trace

/-- What a call that hands back an event of its own leaves. -/
def GotE (w : World) (x : Ev) (e : Ending) (w' : World) : Prop :=
  ∃ K c, e = .returned (.agg #[.int .u64 x.time, .slice K x.ids.length c]) ∧ EvOk w' x K c ∧ Below w.heap.size w w' ∧ ∀ a, K = some a → w.heap.size ≤ a.block
theorem infoInt : (Tryz.prog.info? 3).map (fun i => (i.zero, i.size, i.bytes)) = some (some (.int .i64 0), 1, 8) := by kernel_rfl
theorem byte_i64 {z : Int} (h : 0 ≤ z ∧ z ≤ 255) : ∀ y ∈ [z], (Lit.int .i64 y).wf = true := fun y hy => by
  rw [List.mem_singleton.1 hy]
  simp [Lit.wf, IntKind.min, IntKind.max, IntKind.signed, IntKind.bits]
  omega
theorem bytes_i64 {l : List Int} (h : ∀ z ∈ l, 0 ≤ z ∧ z ≤ 255) : ∀ y ∈ l, (Lit.int .i64 y).wf = true := fun y hy => byte_i64 (h y hy) y (List.mem_singleton.2 rfl)

theorem own_other {w : World} {base n : Nat} {e : TypeId} {v : Value} {xs : List Value} (h : w.ownsRow base e 1 v n xs) (p : Addr) (u : Value) (hp : p.block < base) : (w.setCell p u).ownsRow base e 1 v n xs :=
  h.kept (row := some p.block) ⟨rfl, rfl, rfl, by simp [World.setCell], fun k _ hne => Below.heap_setCell w p u k (fun e => hne (by rw [e]))⟩
    (by
      rcases hv : v.ownBlock with _ | k
      · exact Or.inl rfl
      · refine Or.inr fun e => ?_
        have := (h.lt k hv).1
        injection e with e
        omega)

set_option maxHeartbeats 4000000 in
set_option maxRecDepth 100000 in
theorem landEvent (b off m c : Nat) (zs : List Int) (w : World) (hm : m ≤ 1000) (hc : m + 10 ≤ c) (hcm : c ≤ maxLen) (h : Rd .u8 w (some ⟨b, off, none⟩) (m + 10) zs) :
    Calls Tryz.prog 115 #[.slice (some ⟨b, off, none⟩) (m + 10) c] w (GotE w ⟨numR ((zs.drop 2).take 8), zs.drop 10⟩) := by
  obtain ⟨i0, hi, hz0, hz1, hz2⟩ := info_parts infoInt
  have q63 : maxLen = 9223372036854775807 := rfl
  have h2 := h.drop (m := 2) (by omega)
  have h8 := h2.take (m := 8) (by omega)
  have hd := h.drop (m := 10) (by omega)
  rw [show m + 10 - 10 = m by omega] at hd
  obtain ⟨t, ht⟩ : ∃ t, numR ((zs.drop 2).take 8) = t := ⟨_, rfl⟩
  have htb := num_bd 8 ((zs.drop 2).take 8) (by rw [h8.len]; exact Nat.le_refl _) (all_u8 h8.all)
  rw [ht] at htb
  have htw : (Lit.int .u64 t).wf = true := by
    simp [Lit.wf, IntKind.min, IntKind.max, IntKind.signed, IntKind.bits]
    have : (256 : Nat) ^ 8 = 18446744073709551616 := by decide
    omega
  have HT := Lib.hid htw
  have FN := fun W (hW : Rd .u8 W (some ⟨b, off + 2, none⟩) 8 ((zs.drop 2).take 8)) => landNumber (some ⟨b, off + 2, none⟩) 8 (c - 2) _ W (Nat.le_refl _) hW
  rw [ht] at FN ⊢
  obtain ⟨ids, hids⟩ : ∃ ids, zs.drop 10 = ids := ⟨_, rfl⟩
  rw [hids] at hd ⊢
  have hblt : ∀ W, w.heap.size ≤ W.heap.size → Below w.heap.size w W → Rd .u8 W (some ⟨b, off + 10, none⟩) m ids := fun W _ hW => hd.below hW
  have H8 := Lib.hid h8
  have HL := Lib.hid hd.len
  have HF := Lib.hid FN
  have HD := Lib.hid hd
  have HB := Lib.hid hblt
  have HBY := Lib.hid (bytes_i64 (all_u8 hd.all))
  have g1 : (2 : Int) ≤ ((m + 10 : Nat) : Int) := by omega
  have g2 : (8 : Int) ≤ (c : Int) - 2 := by omega
  have g3 : (10 : Int) ≤ (c : Int) := by omega
  have g4 : (c : Int) ≤ 9223372036854775807 := by omega
  clear h h2 h8 hd ht htb htw FN hids hblt
  go_enter Tryz.func115, Tryz.ntmps115
  go_wp2_with fail
  refine (HF.out _ (H8.out.alloc _)).mono ?_
  rintro e w' ⟨rfl, rfl⟩
  go_wp2_with fail
  all_goals
    have HSP : Hid (m = 0 ∨ 10 < c) := by show _ ∨ _; omega
    go_loopw [15] (fun i wr => ∃ (k : Nat) (v : Value), k ≤ m ∧ i = .int .i64 k ∧ Blk wr w.heap.size [.int .u64 0, .slice none 0 0] ∧ Blk wr (w.heap.size + 1) [.int .u64 t, v] ∧ wr.ownsRow (w.heap.size + 2) 3 1 v k ((ids.take k).map (Value.int .i64)) ∧ Below w.heap.size w wr ∧ w.heap.size + 2 ≤ wr.heap.size) (fun i _ => m - (intOf i).toNat)
    case atStart =>
      refine ⟨0, _, Nat.zero_le _, rfl, (Blk.new w #[.int .u64 0, .slice none 0 0] 38 _ rfl).alloc _, ?_, World.ownsRow_nil _ _ _ _, ((Below.refl _ _).alloc (Nat.le_refl _) _).alloc (le_alloc (Nat.le_refl _)) _, by simp⟩
      have := Blk.new (w.alloc (.cells #[.int .u64 0, .slice none 0 0] 38)) #[.int .u64 t, .slice none 0 0] 38 _ rfl
      simpa using this
    case round =>
      obtain ⟨k, v, hk, rfl, hK0, hK1, hrow, hBr, hsz⟩ := hrel
      have e0 := hK1.cell 0 rfl
      have e1 := hK1.cell 1 rfl
      have f1 := hK1.fz 1 rfl
      have r0 := hK0.cell 0 rfl
      have r1 := hK0.cell 1 rfl
      have q0 := hK0.fz 0 rfl
      have q1 := hK0.fz 1 rfl
      by_cases hkm : k < m
      · first
          | (exfalso; omega)
          | (obtain ⟨b', off', e, hc⟩ := (HD.out.below hBr).cell (by omega)
             simp only [Option.some.injEq, Addr.mk.injEq, and_true] at e
             obtain ⟨rfl, rfl⟩ := e
             have x0 := hc k hkm
             obtain ⟨z, hz⟩ : ∃ z, ids[k]?.getD 0 = z := ⟨_, rfl⟩
             have hzb := (HD.out.below hBr).u8 k hkm
             rw [hz] at x0 hzb
             have HS := Lib.hid (take_snoc ids k (by rw [HL.out]; exact hkm))
             have HZ := Lib.hid hz
             have HR := Lib.hid hrow
             have HK0 := Lib.hid hK0
             have HK1 := Lib.hid hK1
             obtain ⟨A1, c1, rfl, hc1, hm1, -, hb1⟩ := own_slice hrow
             obtain ⟨z0, z1⟩ := hzb
             clear hc hz hrow hK0 hK1 r0 r1 q0 q1
             have hne : ∀ g, g < w.heap.size + 2 → some g ≠ (Value.slice A1 k c1).ownBlock := fun g hg e => by
               cases A1 with
               | none => simp [Value.ownBlock] at e
               | some a => simp [Value.ownBlock] at e; have := (hb1 a rfl).1; omega
             go_wp2_with (at_builtin; refine wpList_append_ints rfl _ _ 24 rfl .i64 (w.heap.size + 2) 3 i0 8 Tryz.underlying24 hi hz0 hz1 hz2 _ _ _ rfl (HR.out.alloc _) _ 1 1 [z] rfl (Rd.lit wr 3 (0, 0) [z] (byte_i64 ⟨z0, z1⟩)) (by omega) (by omega) (le_alloc hsz) ?_; intro v2 w2 hown2 hgr2; obtain ⟨A2, c2, rfl, -⟩ := own_slice hown2; have hK1' := (HK1.out.alloc (.cells #[.int .i64 z] 3)).grown hgr2 (hne _ (by omega)); have y1 := hK1'.cell 1 rfl; have y2 := hK1'.fz 1 rfl)
             go_roundw
             case rel =>
               have hK0' := (HK0.out.alloc (.cells #[.int .i64 z] 3)).grown hgr2 (hne _ (by omega))
               have hB2 := (hBr.alloc hBr.size (.cells #[.int .i64 z] 3)).grown hgr2 (le_alloc hBr.size) (fun q hq => by have := (HR.out.lt q hq).1; omega)
               have hs2 : w.heap.size + 2 ≤ w2.heap.size := Nat.le_trans (le_alloc (o := .cells #[.int .i64 z] 3) hsz) hgr2.size
               exact ⟨k + 1, .slice A2 (k + 1) c2, by omega, by go_num, hK0'.other _ _ (by simp), hK1'.set 1 _ (by simp), own_other (row_more (ys := ids.take (k + 1)) rfl (by rw [HS.out, HZ.out]) hown2) ⟨w.heap.size + 1, 1, none⟩ (.slice A2 (k + 1) c2) (Nat.lt_succ_self _), hB2.setCell (by simp) _, by simpa [World.setCell] using hs2⟩
             case measure => simp [intOf]; omega)
      · obtain rfl : k = m := by omega
        obtain ⟨A1, c1, rfl, hc1, hm1, -, hb1⟩ := own_slice hrow
        have HR := Lib.hid hrow
        have HK1 := Lib.hid hK1
        clear hrow hK0 hK1
        go_wp2
        refine bodyPost_ret (v := .agg #[.int .u64 t, .slice A1 k c1]) (by simp [results, Tryz.results115, go_sem, r0, r1]) rfl ?_
        have hre : Blk ((wr.setCell ⟨w.heap.size, 0, none⟩ (.int .u64 t)).setCell ⟨w.heap.size, 1, none⟩ (.slice A1 k c1)) (w.heap.size + 1) [.int .u64 t, .slice A1 k c1] := (HK1.out.other _ _ (by simp)).other _ _ (by simp)
        have hown := own_other (own_other HR.out ⟨w.heap.size, 0, none⟩ (.int .u64 t) (by simp)) ⟨w.heap.size, 1, none⟩ (.slice A1 k c1) (by simp)
        have hlen : ids.length = k := HL.out
        rw [List.take_of_length_le (by omega)] at hown
        exact ⟨A1, c1, by rw [hlen], ⟨HT.out, by show Rd .i64 _ A1 ids.length ids; rw [hlen]; exact Rd.own hown HBY.out, by show ids.length ≤ c1; omega, hm1⟩, (hBr.setCell (Nat.le_refl _) _).setCell (Nat.le_refl _) _, fun a ha => by have := (hb1 a ha).1; omega⟩
end Go.Proofs.YtimbbfneaaglbaaGreat.Record
