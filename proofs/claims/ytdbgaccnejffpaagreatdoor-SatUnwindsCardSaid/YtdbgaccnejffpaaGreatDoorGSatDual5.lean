/-
  The part of LexN that speaks of functions which not every seat has. By an AI agent.
  The part of IvalMay that speaks of functions which not every seat has. By an AI agent.
  The part of TreeMay that speaks of functions which not every seat has. By an AI agent.
  The walks of the reference's Form, Reg, Plain and SameNodes. By an AI agent.
  The walks of the reference's Start and Part. The walk of the reference's Part.
    Made of several texts by wip/tools/mergetpl.py. By an AI agent.
  The walks of the reference's inside, places, Tests and Steps (stage 14). By an AI agent.
  Sets of numbers as lists of words, in plain arithmetic: which number is in, that a list without noughts at its end is told by what is in it, how many are in it, and which, in order. By an AI agent.
  Slices of words as a walk needs them: a slice that reads as a list of natural numbers below 2^64; the bits of two words. By an AI agent.
  How many bits a word has, as math/bits reckons it: by bits, by pairs, by halves of a byte, by bytes. By an AI agent.
  The walks of package bits and of its reference: what only reads: words, which are used, is a number in, within, the same, how many. By an AI agent.
  The reference's reach, node by node: steps (stage 14). By an AI agent.
  The reference's reach, node by node: tests (stage 14). By an AI agent.
  The reference's reach, node by node: two kids, one after the other (stage 14). By an AI agent.
  The reference's reach, node by node: any number of times (stage 14). By an AI agent.
  The reference's reach, node by node: one of two kids (stage 14). By an AI agent.
  The reference's reach, every node (stage 14). By an AI agent.
  The reference's Reach (stage 14). By an AI agent.
  What a list of nodes that may be asks, as plain functions. By an AI agent.
-/
import Derived.Test.YtdbgaccnejffpaaGreatDoorGSatDual4
import Derived.Test.YtdbgaccnejffpaaGreatDoorGSatDual3
import Derived.Deep.RegionHeld
import Derived.Lib.TrailingZeros
import Derived.Test.YtdbgaccnejffpaaGreatDoorGSatDual1
import Derived.Laws.Bits64b
import Derived.Laws.BitsLemmas
import Derived.IntWalk
import Derived.Test.YtdbgaccnejffpaaGreatDoorChecked
import Derived.WalkKit
import Derived.WalkSpells
import Derived.WalkLawsBesides
import Derived.Below
import Derived.Lib.Hide
import Derived.BigQuiet
import Derived.Deep.QuietTactic
namespace Go.Proofs.YtdbgaccnejffpaaGreatDoor.Lex
open Go.RowKit
section
variable {P : Program} {w : World}
end
end Go.Proofs.YtdbgaccnejffpaaGreatDoor.Lex

namespace Go.Proofs.YtdbgaccnejffpaaGreatDoor.Ival
open Go.RowKit
end Go.Proofs.YtdbgaccnejffpaaGreatDoor.Ival

namespace Go.Proofs.YtdbgaccnejffpaaGreatDoor.Tree
open Go.RowKit Go.Proofs.YtdbgaccnejffpaaGreatDoor.Ints
end Go.Proofs.YtdbgaccnejffpaaGreatDoor.Tree

namespace Go.Proofs.YtdbgaccnejffpaaGreatDoor.Tree
open Go.RowKit Go.Proofs.YtdbgaccnejffpaaGreatDoor.Ints
theorem last_at {l : List Nd} {n : Nat} (hl : l.length = n) (h0 : 0 < n) : ∃ x, l[n - 1]? = some x ∧ lastKind l = x.kind := by
 have h1 : n - 1 < l.length := by omega
 refine ⟨l[n - 1], List.getElem?_eq_getElem h1, ?_⟩
 unfold lastKind
 rw [List.getLast?_eq_getElem?, hl, List.getElem?_eq_getElem h1]
 rfl
theorem last_cell {l : List Nd} {n : Nat} {w : World} {A : Option Addr} (hl : l.length = n) (h0 : 0 < n) (h : Nodes Any w A l) : ∃ b off, A = some ⟨b, off, none⟩ ∧ w.cell? ⟨b, off + (n - 1) * 5, none⟩ = some (.int .i64 (lastKind l)) := by
 obtain ⟨b, off, e, hn⟩ := h (by omega)
 obtain ⟨x, hx, hk⟩ := last_at hl h0
 refine ⟨b, off, e, ?_⟩
 have := (hn _ _ hx).1
 rw [Nat.mul_comm] at this
 rw [hk]; exact this
end Go.Proofs.YtdbgaccnejffpaaGreatDoor.Tree

/- The walks of the reference's Start and Part. By an AI agent. -/
namespace Go.Proofs.YtdbgaccnejffpaaGreatDoor.Tree
open Go.RowKit Go.Proofs.YtdbgaccnejffpaaGreatDoor.Ints
end Go.Proofs.YtdbgaccnejffpaaGreatDoor.Tree
/- The walk of the reference's Part. By an AI agent. -/
namespace Go.Proofs.YtdbgaccnejffpaaGreatDoor.Tree
open Go.RowKit Go.Proofs.YtdbgaccnejffpaaGreatDoor.Ints
end Go.Proofs.YtdbgaccnejffpaaGreatDoor.Tree

namespace Go.Proofs.YtdbgaccnejffpaaGreatDoor.Paths
open Go.RowKit Go.Proofs.YtdbgaccnejffpaaGreatDoor.Ints Go.Proofs.YtdbgaccnejffpaaGreatDoor.Mem Go.Proofs.YtdbgaccnejffpaaGreatDoor.Src Go.Proofs.YtdbgaccnejffpaaGreatDoor.Tree
def kindN (l : List Nd) (k : Nat) : Int := (l[k]?.map (·.kind)).getD 0
theorem kind_of {l : List Nd} {k : Nat} {nd : Nd} (h : l[k]? = some nd) : kindN l k = nd.kind := by unfold kindN; rw [h]; rfl
def insideB (l : List Nd) (i : Nat) : Bool := (List.range l.length).any fun k => decide (i < k) && (decide (kindN l k = 19) && decide (startL l k ≤ i))
def placesL (l : List Nd) (kd : Int) : List Nat := (List.range l.length).filter fun i => decide (kindN l i = kd) && !insideB l i
def placesR (l : List Nd) (kd : Int) : List Nat := if regL l = true then placesL l kd else []
end Go.Proofs.YtdbgaccnejffpaaGreatDoor.Paths

namespace Go.Proofs.YtdbgaccnejffpaaGreatDoor.Words
def wd (xs : List Nat) (j : Nat) : Nat := xs[j]?.getD 0
def has (xs : List Nat) (k : Nat) : Bool := (xs[k / 64]?.getD 0).testBit (k % 64)
def Ws (xs : List Nat) : Prop := ∀ j : Nat, xs[j]?.getD 0 < 18446744073709551616
theorem out_getD {xs : List Nat} {j : Nat} (h : xs.length ≤ j) : xs[j]?.getD 0 = 0 := by rw [List.getElem?_eq_none h, Option.getD_none]
theorem or_lt {a b : Nat} (ha : a < 18446744073709551616) (hb : b < 18446744073709551616) : a ||| b < 18446744073709551616 := Nat.or_lt_two_pow (n := 64) ha hb
def anot (a b : Nat) : Nat := a ^^^ (a &&& b)
end Go.Proofs.YtdbgaccnejffpaaGreatDoor.Words

namespace Go.Proofs.YtdbgaccnejffpaaGreatDoor.RdW
open Go.RowKit Go.Proofs.YtdbgaccnejffpaaGreatDoor.Ints Go.Proofs.YtdbgaccnejffpaaGreatDoor.Words
def ints (xs : List Nat) : List Int := xs.map Int.ofNat
theorem ints_at (xs : List Nat) (j : Nat) : (ints xs)[j]?.getD 0 = ((xs[j]?.getD 0 : Nat) : Int) := by
 unfold ints
 rw [List.getElem?_map]
 cases xs[j]? <;> rfl
theorem ints_len (xs : List Nat) : (ints xs).length = xs.length := by simp [ints]
theorem ints_set (xs : List Nat) (j x : Nat) : (ints xs).set j (x : Int) = ints (xs.set j x) := by simp [ints, List.map_set]
theorem word_wf {x : Nat} (h : x < 18446744073709551616) : (Lit.int .u64 (x : Int)).wf = true := by
 simp [Lit.wf, IntKind.min, IntKind.max, IntKind.signed, IntKind.bits]
 omega
theorem ints_wf {xs : List Nat} (h : Ws xs) : ∀ z ∈ ints xs, (Lit.int .u64 z).wf = true := by
 intro z hz
 obtain ⟨x, hx, rfl⟩ := List.mem_map.1 hz
 obtain ⟨j, hj, rfl⟩ := List.getElem_of_mem hx
 have := h j
 rw [List.getElem?_eq_getElem hj] at this
 exact word_wf this
def RdW (w : World) (A : Option Addr) (n : Nat) (xs : List Nat) : Prop := Rd .u64 w A n (ints xs)
section
variable {w w' : World} {A : Option Addr} {n : Nat} {xs : List Nat}
theorem RdW.len (h : RdW w A n xs) : xs.length = n := by rw [← ints_len]; exact Rd.len h
theorem RdW.ws (h : RdW w A n xs) : Ws xs := fun j => by
 by_cases hj : j < n
 ·have := Rd.u64 h j hj
  rw [ints_at] at this
  omega
 ·rw [out_getD (by rw [h.len]; omega)]; omega
theorem RdW.cell (h : RdW w A n xs) : 0 < n → ∃ b off, A = some ⟨b, off, none⟩ ∧ ∀ j, j < n → w.cell? ⟨b, off + j, none⟩ = some (.int .u64 ((wd xs j : Nat) : Int)) := fun h0 => by
 obtain ⟨b, off, e, hc⟩ := Rd.cell h h0
 exact ⟨b, off, e, fun j hj => by rw [hc j hj, ints_at]; rfl⟩
theorem RdW.below (h : RdW w A n xs) (hb : Below w.heap.size w w') : RdW w' A n xs := Rd.below h hb
theorem RdW.own {base c : Nat} {e : TypeId} (h : w.ownsRow base e 1 (.slice A n c) n ((ints xs).map (Value.int .u64))) (hz : Ws xs) : RdW w A n xs := Rd.own h (ints_wf hz)
end
theorem shr_nat (x r : Nat) : (x : Int) / 2 ^ r = ((x / 2 ^ r : Nat) : Int) := by
 rw [Int.natCast_ediv, Int.natCast_pow]; rfl
theorem bit_one (x r : Nat) (hx : x < 18446744073709551616) : (bits .and .u64 ((x : Int) / 2 ^ r) 1 == 1) = x.testBit r := by
 have h := bits_and_u64_nat (x / 2 ^ r) 1 (Nat.lt_of_le_of_lt (Nat.div_le_self _ _) hx) (by omega)
 rw [shr_nat, show (1 : Int) = ((1 : Nat) : Int) from rfl, h, Nat.and_one_is_mod, Nat.testBit_eq_decide_div_mod_eq, Bool.eq_iff_iff, beq_iff_eq, decide_eq_true_iff]
 omega
end Go.Proofs.YtdbgaccnejffpaaGreatDoor.RdW

namespace Go.Proofs.YtdbgaccnejffpaaGreatDoor.Words
def val : List Nat → Nat
 | [] => 0
 | b :: r => b + 256 * val r
def bytes : Nat → Nat → List Nat
 | 0, _ => []
 | n + 1, x => x % 256 :: bytes n (x / 256)
def s1 (b : Nat) : Nat := (b / 2 &&& 85) + (b &&& 85)
def s2 (b : Nat) : Nat := (b / 4 &&& 51) + (b &&& 51)
def s3 (b : Nat) : Nat := b / 16 + b % 16
theorem b1 : ∀ b, b < 256 → ∀ r, r < 2 → (b / 2 + 128 * r) &&& 85 = b / 2 &&& 85 := by decide +kernel
theorem b2 : ∀ b, b < 256 → ∀ r, r < 4 → (b / 4 + 64 * r) &&& 51 = b / 4 &&& 51 := by decide +kernel
theorem b3 : ∀ b, b < 256 → s1 b < 256 ∧ s2 (s1 b) < 256 ∧ s2 (s1 b) / 16 ≤ 4 ∧ s2 (s1 b) % 16 ≤ 4 ∧ s3 (s2 (s1 b)) = ((List.range 8).filter b.testBit).length := by decide +kernel
theorem b4 : ∀ d, d < 256 → d &&& 15 = d % 16 := by decide +kernel
end Go.Proofs.YtdbgaccnejffpaaGreatDoor.Words

namespace Go.Proofs.YtdbgaccnejffpaaGreatDoor.BitsWalks
open Go.RowKit Go.Proofs.YtdbgaccnejffpaaGreatDoor.Ints Go.Proofs.YtdbgaccnejffpaaGreatDoor.Words Go.Proofs.YtdbgaccnejffpaaGreatDoor.RdW
section
variable (A B : Option Addr) (n c m d : Nat) (xs ys : List Nat) (w : World)
theorem word (i : Nat) (h : RdW w A n xs) :
  Calls Tryz.prog 105 #[.slice A n c, .int .i64 i] w fun e w' => e = .returned (.int .u64 (wd xs i : Nat)) ∧ w = w' := by
 have hl := h.len
 have hcell := h.cell
 clear h
 by_cases hi : i < n
 ·obtain ⟨b, off, rfl, hc⟩ := hcell (by omega)
  have hc1 := hc i hi
  clear hcell hc
  have hi' : (i : Int) < (n : Int) := by omega
  go_enter Tryz.func105, Tryz.ntmps105
  go_wp2
  go_ret
  exact ⟨rfl, rfl⟩
 ·have hi' : ¬ (i : Int) < (n : Int) := by omega
  have ho : wd xs i = 0 := out_getD (by omega)
  go_enter Tryz.func105, Tryz.ntmps105
  go_wp2
  go_ret
  exact ⟨rfl, rfl⟩
def hasI (xs : List Nat) (n : Int) : Bool := decide (0 ≤ n) && has xs n.toNat
theorem has_at_ {xs : List Nat} (hw : Ws xs) (m : Nat) : (bits .and .u64 ((wd xs (m / 64) : Nat) / 2 ^ (m % 64) : Int) 1 == 1) = hasI xs m := by
 have h := bit_one (wd xs (m / 64)) (m % 64) (hw (m / 64))
 rw [h]
 simp [hasI, has, wd]
theorem has_ (k : Int) (hk : k ≤ 9223372036854775807) (h : RdW w A n xs) :
  Calls Tryz.prog 102 #[.slice A n c, .int .i64 k] w fun e w' => e = .returned (.bool (hasI xs k)) ∧ w = w' := by
 by_cases h0 : k < 0
 ·go_enter Tryz.func102, Tryz.ntmps102
  go_wp2
  go_ret
  exact ⟨by simp [hasI, show ¬ 0 ≤ k by omega], rfl⟩
 ·obtain ⟨m, rfl⟩ := Int.eq_ofNat_of_zero_le (show 0 ≤ k by omega)
  have hv := has_at_ h.ws m
  generalize hasI xs (m : Int) = r at *
  obtain ⟨q, hq⟩ : ∃ q, m / 64 = q := ⟨_, rfl⟩
  obtain ⟨b, hb⟩ : ∃ b, m % 64 = b := ⟨_, rfl⟩
  rw [hq, hb] at hv
  have e1 : (m : Int) / 64 = (q : Int) := by omega
  have e2 : (m : Int) % 64 = (b : Int) := by omega
  have e3 : (b : Int) ≤ 64 := by omega
  clear hq hb
  go_enter Tryz.func102, Tryz.ntmps102
  go_wp2_with (go_at_call 105; refine (word _ _ _ _ _ q h).mono ?_; rintro e w' ⟨rfl, rfl⟩)
  go_ret
  exact ⟨rfl, rfl⟩
end
end Go.Proofs.YtdbgaccnejffpaaGreatDoor.BitsWalks

namespace Go.Proofs.YtdbgaccnejffpaaGreatDoor.Paths
open Go.RowKit Go.Proofs.YtdbgaccnejffpaaGreatDoor.Ints Go.Proofs.YtdbgaccnejffpaaGreatDoor.Mem Go.Proofs.YtdbgaccnejffpaaGreatDoor.Src Go.Proofs.YtdbgaccnejffpaaGreatDoor.Tree Go.Proofs.YtdbgaccnejffpaaGreatDoor.BitsWalks Go.Proofs.YtdbgaccnejffpaaGreatDoor.RdW
def kidN (l : List Nd) (x q : Nat) : Nat := (((l[x]?.map (fun y : Nd => y.kids)).getD [])[q]?.getD 0).toNat
def rxOf (l : List Nd) (ts : List Int) (vs : Nat → List Nat) : Rx := ⟨kindN l, fun x => kidN l x 0, fun x => kidN l x 1, fun x i => hasI (vs i) (numT ts (x : Nat))⟩
def RdV (w : World) (V : Option Addr) (n : Nat) (vs : Nat → List Nat) : Prop := 0 < n → ∃ b off, V = some ⟨b, off, none⟩ ∧ ∀ i, i < n → ∃ K q c, w.cell? ⟨b, off + i, none⟩ = some (.slice K q c) ∧ RdW w K q (vs i) ∧ q ≤ c ∧ c ≤ maxLen
structure RIn (w : World) (A : Option Addr) (n : Nat) (l : List Nd) (T : Option Addr) (nt : Nat) (ts : List Int) (V : Option Addr) (nv : Nat) (vs : Nat → List Nat) : Prop where
 nodes : Nodes Tree.Any w A l
 may : mayL l = true
 len : l.length = n
 small : n ≤ 1048576
 tests : Rd .i64 w T nt ts
 nts : nt ≤ 1048576
 vals : RdV w V nv vs
 nvs : nv ≤ 1000000
def GotTab (w : World) (nv : Nat) (m : Tb) (e : Ending) (w' : World) : Prop := ∃ B R, e = .returned (.slice (some ⟨B, 0, none⟩) nv nv) ∧ Tab w' w.heap.size B R nv m ∧ Below w.heap.size w w'
end Go.Proofs.YtdbgaccnejffpaaGreatDoor.Paths

namespace Go.Proofs.YtdbgaccnejffpaaGreatDoor.Paths
open Go.RowKit Go.Proofs.YtdbgaccnejffpaaGreatDoor.Ints Go.Proofs.YtdbgaccnejffpaaGreatDoor.Mem Go.Proofs.YtdbgaccnejffpaaGreatDoor.Src Go.Proofs.YtdbgaccnejffpaaGreatDoor.Tree Go.Proofs.YtdbgaccnejffpaaGreatDoor.BitsWalks Go.Proofs.YtdbgaccnejffpaaGreatDoor.RdW
end Go.Proofs.YtdbgaccnejffpaaGreatDoor.Paths

namespace Go.Proofs.YtdbgaccnejffpaaGreatDoor.Paths
open Go.RowKit Go.Proofs.YtdbgaccnejffpaaGreatDoor.Ints Go.Proofs.YtdbgaccnejffpaaGreatDoor.Mem Go.Proofs.YtdbgaccnejffpaaGreatDoor.Src Go.Proofs.YtdbgaccnejffpaaGreatDoor.Tree Go.Proofs.YtdbgaccnejffpaaGreatDoor.BitsWalks Go.Proofs.YtdbgaccnejffpaaGreatDoor.RdW
theorem kid_len {l : List Nd} (h : mayL l = true) {i : Nat} {nd : Nd} (hi : l[i]? = some nd) : (nd.kids.length : Int) = arity nd.kind := by
 obtain ⟨st, -, h2, -, -⟩ := may_node h hi
 exact (shape_parts h2).2.1
theorem kidN_at {l : List Nd} {i : Nat} {nd : Nd} (hi : l[i]? = some nd) (j : Nat) : kidN l i j = (nd.kids[j]?.getD 0).toNat := by
 unfold kidN
 rw [hi]
 rfl
theorem node_kids {w : World} {A : Option Addr} {n : Nat} {l : List Nd} {T : Option Addr} {nt : Nat} {ts : List Int} {V : Option Addr} {nv : Nat} {vs : Nat → List Nat} (h : RIn w A n l T nt ts V nv vs) {at_ : Nat} (hat : at_ < n) {m : Nat} (hm : arity (kindN l at_) = (m : Nat)) (h0 : 0 < m) :
  ∃ (b off : Nat) (nd : Nd) (Kb ko cK : Nat), A = some ⟨b, off, none⟩ ∧ nd.kind = kindN l at_ ∧ m ≤ cK ∧ (∀ j, j < m → kidN l at_ j < at_) ∧ ∀ W, Below w.heap.size w W →
   W.cell? ⟨b, off + at_ * 5, none⟩ = some (.int .i64 nd.kind) ∧ W.cell? ⟨b, off + at_ * 5 + 1, none⟩ = some (.string nd.name) ∧ W.cell? ⟨b, off + at_ * 5 + 2, none⟩ = some (.int .i64 nd.lo) ∧ W.cell? ⟨b, off + at_ * 5 + 3, none⟩ = some (.int .i64 nd.hi) ∧
   W.cell? ⟨b, off + at_ * 5 + 4, none⟩ = some (.slice (some ⟨Kb, ko, none⟩) m cK) ∧ ∀ j, j < m → W.cell? ⟨Kb, ko + j, none⟩ = some (.int .i64 ((kidN l at_ j : Nat) : Int)) := by
 have hl := h.len
 obtain ⟨b, off, rfl, hns⟩ := h.nodes (by omega)
 obtain ⟨nd, hnd⟩ : ∃ nd, l[at_]? = some nd := ⟨_, List.getElem?_eq_getElem (by omega)⟩
 have hkl := kid_len h.may hnd
 rw [← kind_of hnd, hm] at hkl
 obtain ⟨x0, x1, x2, x3, s0, s2, s3, s1, K, cK, x4, xr, hc, -⟩ := hns at_ nd hnd
 rw [Nat.mul_comm 5 at_] at x0 x1 x2 x3 x4
 obtain rfl : nd.kids.length = m := by omega
 obtain ⟨Kb, ko, rfl, hcs⟩ := Rd.cell xr h0
 have hkid : ∀ j, j < nd.kids.length → nd.kids[j]?.getD 0 = ((kidN l at_ j : Nat) : Int) ∧ kidN l at_ j < at_ := fun j hj => by
  obtain ⟨t, ht, hlt, -⟩ := kid_nat h.may hnd hj
  rw [kidN_at hnd, ht]
  exact ⟨by simp, by simpa using hlt⟩
 refine ⟨b, off, nd, Kb, ko, cK, rfl, (kind_of hnd).symm, hc, fun j hj => (hkid j hj).2, fun W hb => ⟨Mem.below_cell hb x0, Mem.below_cell hb x1, Mem.below_cell hb x2, Mem.below_cell hb x3, Mem.below_cell hb x4, fun j hj => ?_⟩⟩
 have h2 := hcs j hj
 rw [(hkid j hj).1] at h2
 exact Mem.below_cell hb h2
end Go.Proofs.YtdbgaccnejffpaaGreatDoor.Paths

namespace Go.Proofs.YtdbgaccnejffpaaGreatDoor.Paths
open Go.RowKit Go.Proofs.YtdbgaccnejffpaaGreatDoor.Ints Go.Proofs.YtdbgaccnejffpaaGreatDoor.Mem Go.Proofs.YtdbgaccnejffpaaGreatDoor.Src Go.Proofs.YtdbgaccnejffpaaGreatDoor.Tree Go.Proofs.YtdbgaccnejffpaaGreatDoor.BitsWalks Go.Proofs.YtdbgaccnejffpaaGreatDoor.RdW
end Go.Proofs.YtdbgaccnejffpaaGreatDoor.Paths

namespace Go.Proofs.YtdbgaccnejffpaaGreatDoor.Paths
open Go.RowKit Go.Proofs.YtdbgaccnejffpaaGreatDoor.Ints Go.Proofs.YtdbgaccnejffpaaGreatDoor.Mem Go.Proofs.YtdbgaccnejffpaaGreatDoor.Src Go.Proofs.YtdbgaccnejffpaaGreatDoor.Tree Go.Proofs.YtdbgaccnejffpaaGreatDoor.BitsWalks Go.Proofs.YtdbgaccnejffpaaGreatDoor.RdW
end Go.Proofs.YtdbgaccnejffpaaGreatDoor.Paths

namespace Go.Proofs.YtdbgaccnejffpaaGreatDoor.Paths
open Go.RowKit Go.Proofs.YtdbgaccnejffpaaGreatDoor.Ints Go.Proofs.YtdbgaccnejffpaaGreatDoor.Mem Go.Proofs.YtdbgaccnejffpaaGreatDoor.Src Go.Proofs.YtdbgaccnejffpaaGreatDoor.Tree Go.Proofs.YtdbgaccnejffpaaGreatDoor.BitsWalks Go.Proofs.YtdbgaccnejffpaaGreatDoor.RdW
end Go.Proofs.YtdbgaccnejffpaaGreatDoor.Paths

namespace Go.Proofs.YtdbgaccnejffpaaGreatDoor.Paths
open Go.RowKit Go.Proofs.YtdbgaccnejffpaaGreatDoor.Ints Go.Proofs.YtdbgaccnejffpaaGreatDoor.Mem Go.Proofs.YtdbgaccnejffpaaGreatDoor.Src Go.Proofs.YtdbgaccnejffpaaGreatDoor.Tree Go.Proofs.YtdbgaccnejffpaaGreatDoor.BitsWalks Go.Proofs.YtdbgaccnejffpaaGreatDoor.RdW
def idxI (l : List Nat) : List Int := l.map fun i => ((i : Nat) : Int)
def tableR (l : List Nd) (vs : Nat → List Nat) (nv : Nat) : Tb := reachT (rxOf l (idxI (placesR l 19)) vs) nv l.length (l.length - 1)
def GotR (w : World) (reg : Bool) (nv : Nat) (m : Tb) (e : Ending) (w' : World) : Prop := if reg = true then GotTab w nv m e w' else e = .returned (.slice none 0 0) ∧ Below w.heap.size w w'
theorem gotR_yes {reg : Bool} (h : reg = true) (w : World) (nv : Nat) (m : Tb) : GotR w reg nv m = GotTab w nv m := by funext e w'; unfold GotR; rw [if_pos h]
theorem gotR_no {reg : Bool} (h : ¬ reg = true) (w : World) (nv : Nat) (m : Tb) : GotR w reg nv m = fun e w' => e = .returned (.slice none 0 0) ∧ Below w.heap.size w w' := by funext e w'; unfold GotR; rw [if_neg h]
end Go.Proofs.YtdbgaccnejffpaaGreatDoor.Paths

/- What the landed program asks of a list of nodes, as plain functions; it is what may be. By an AI agent. -/
namespace Go.Proofs.YtdbgaccnejffpaaGreatDoor.Tree
open Go.RowKit
def kidc (k : Int) : Nat := if k ∈ none0 then 0 else if k ∈ twos then 2 else 1
def regKind (k : Int) : Bool := decide (18 ≤ k ∧ k ≤ 22)
def takesReg (k : Int) : Bool := decide (k ∈ regs)
def nameOkB (n : Nd) : Bool := if n.kind = 3 then Lex.nameS n.name.data.toList else decide (n.name.data.toList = [])
def fieldsB (n : Nd) : Bool := (formKind n.kind || regKind n.kind) && (nameOkB n && okSpan n)
def kindAt (l : List Nd) (k : Int) : Int := (l[k.toNat]?.map (·.kind)).getD 0
def kidsB (l : List Nd) (n : Nd) : Bool := n.kids.all fun k => regKind (kindAt l k) == takesReg n.kind
def landStep (l : List Nd) (st : List Nat) (i : Nat) (n : Nd) : Option (List Nat) :=
 if kidc n.kind ≤ st.length ∧ n.kids = (zints st).drop (st.length - kidc n.kind) ∧ fieldsB n = true ∧ kidsB l n = true then some (st.take (st.length - kidc n.kind) ++ [i]) else none
theorem kidc_arity {k : Int} (h : 1 ≤ k ∧ k ≤ 22) : arity k = (kidc k : Int) := by
 unfold arity kidc
 by_cases h1 : k ∈ none0
 ·rw [if_pos h1, if_pos h1]; rfl
 ·rw [if_neg h1, if_neg h1]
  by_cases h2 : k ∈ twos
  ·rw [if_pos h2, if_pos h2]; rfl
  ·rw [if_neg h2, if_neg h2, if_neg (by omega)]; rfl
theorem arity_range {k : Int} (h : 0 ≤ arity k) : 1 ≤ k ∧ k ≤ 22 := by
 unfold arity at h
 by_cases h1 : k ∈ none0
 ·simp only [none0, List.mem_cons, List.not_mem_nil, or_false] at h1; omega
 ·rw [if_neg h1] at h
  by_cases h2 : k ∈ twos
  ·simp only [twos, List.mem_cons, List.not_mem_nil, or_false] at h2; omega
  ·rw [if_neg h2] at h
   by_cases h3 : k < 1 ∨ 22 < k
   ·rw [if_pos h3] at h; omega
   ·omega
theorem kinds_range (k : Int) : (formKind k || regKind k) = true ↔ 1 ≤ k ∧ k ≤ 22 := by
 unfold formKind regKind
 simp only [Bool.or_eq_true, decide_eq_true_eq]
 omega
theorem upTo_kinds {l : List Nd} : ∀ (i : Nat) (st : List Nat), mayUpTo l i = some st → ∀ (j : Nat) (x : Nd), j < i → l[j]? = some x → 1 ≤ x.kind ∧ x.kind ≤ 22 := by
 intro i
 induction i with
 | zero => intro st _ j x hj; omega
 | succ i ih =>
  intro st h j x hj hx
  rw [mayUpTo] at h
  obtain ⟨s0, h1, h2⟩ := Option.bind_eq_some_iff.1 h
  by_cases e : j = i
  ·subst e
   unfold mayStep at h2
   rw [hx] at h2
   simp only at h2
   split at h2
   ·rename_i hc
    exact arity_range (shape_parts hc.1).1
   ·cases h2
  ·exact ih s0 h1 j x (by omega) hx
theorem fits_reg {k c : Int} (h : 1 ≤ c ∧ c ≤ 22) : fits k c = (regKind c == takesReg k) := by
 unfold fits takesReg regKind formKind
 by_cases h1 : k ∈ regs
 ·rw [if_pos h1, decide_eq_true h1]
  by_cases h2 : c ≤ 17
  ·rw [decide_eq_true (by omega), decide_eq_false (by omega)]; rfl
  ·rw [decide_eq_false (by omega), decide_eq_true (by omega)]; rfl
 ·rw [if_neg h1, decide_eq_false h1]
  by_cases h2 : c ≤ 17
  ·rw [decide_eq_true (by omega), decide_eq_false (by omega)]; rfl
  ·rw [decide_eq_false (by omega), decide_eq_true (by omega)]; rfl
theorem okKids_iff {l : List Nd} {n : Nd} {ks : List Int} {ts : List Nat} (ht : ∀ t ∈ ts, ∃ x, l[t]? = some x ∧ 1 ≤ x.kind ∧ x.kind ≤ 22) :
  okKids l n ks ts = true ↔ ks = zints ts ∧ (ks.all fun k => regKind (kindAt l k) == takesReg n.kind) = true := by
 induction ks generalizing ts with
 | nil =>
  cases ts with
  | nil => simp [okKids, zints]
  | cons t ts => simp [okKids, zints]
 | cons k ks ih =>
  cases ts with
  | nil => simp [okKids, zints]
  | cons t ts =>
   obtain ⟨x, hx, hk⟩ := ht t List.mem_cons_self
   have hkid : okKid l n k t = true ↔ k = (t : Int) ∧ (regKind (kindAt l (t : Int)) == takesReg n.kind) = true := by
    unfold okKid kindAt
    rw [Int.toNat_natCast, hx, Option.map_some, Option.getD_some, fits_reg hk, Bool.and_eq_true, decide_eq_true_eq]
   have ih' := ih (ts := ts) fun t' ht' => ht t' (List.mem_cons_of_mem _ ht')
   simp only [okKids, Bool.and_eq_true, hkid, ih', zints, List.map_cons, List.cons.injEq, List.all_cons]
   constructor
   ·rintro ⟨⟨rfl, h1⟩, h2, h3⟩; exact ⟨⟨rfl, h2⟩, h1, h3⟩
   ·rintro ⟨⟨rfl, h2⟩, h1, h3⟩; exact ⟨⟨rfl, h1⟩, h2, h3⟩
theorem land_step {l : List Nd} {st : List Nat} {i : Nat} {n : Nd} (hu : mayUpTo l i = some st) (hi : l[i]? = some n) : mayStep l st i = landStep l st i n := by
 have hlt := (upTo_lt l i st hu).1
 have hkinds := upTo_kinds i st hu
 have hin : i < l.length := (List.getElem?_eq_some_iff.1 hi).1
 have hts : ∀ k, ∀ t ∈ st.drop k, ∃ x, l[t]? = some x ∧ 1 ≤ x.kind ∧ x.kind ≤ 22 := fun k t ht => by
  have h1 := hlt t (List.mem_of_mem_drop ht)
  have h2 : t < l.length := by omega
  exact ⟨l[t], List.getElem?_eq_getElem h2, hkinds t _ h1 (List.getElem?_eq_getElem h2)⟩
 unfold landStep
 by_cases h : kidc n.kind ≤ st.length ∧ n.kids = (zints st).drop (st.length - kidc n.kind) ∧ fieldsB n = true ∧ kidsB l n = true
 ·rw [if_pos h]
  obtain ⟨h1, h2, h3, h4⟩ := h
  unfold fieldsB at h3
  rw [Bool.and_eq_true, Bool.and_eq_true, kinds_range] at h3
  obtain ⟨h5, h6, h7⟩ := h3
  have ha := kidc_arity h5
  have hkl : n.kids.length = kidc n.kind := by rw [h2, List.length_drop, zints, List.length_map]; omega
  have hsh : okShape n st.length = true := by
   refine shape_ok (by omega) (by rw [ha, hkl]) (by omega) ?_
   unfold nameOkB at h6
   by_cases h8 : n.kind = 3
   ·rw [if_pos h8] at h6; exact Or.inl ⟨h8, h6⟩
   ·rw [if_neg h8] at h6; exact Or.inr ⟨h8, of_decide_eq_true h6⟩
  have hz : (zints st).drop (st.length - kidc n.kind) = zints (st.drop (st.length - kidc n.kind)) := by unfold zints; rw [List.map_drop]
  have := step_some hi hsh h7 (by rw [hkl]; exact (okKids_iff (hts _)).2 ⟨by rw [h2, hz], h4⟩)
  rw [this, hkl]
 ·rw [if_neg h]
  unfold mayStep
  rw [hi]
  simp only
  rw [if_neg]
  rintro ⟨h1, h2, h3⟩
  obtain ⟨a1, a2, a3, a4, a5⟩ := shape_parts h1
  have hr := arity_range a1
  have ha := kidc_arity hr
  have hkl : n.kids.length = kidc n.kind := by omega
  rw [hkl] at h3
  obtain ⟨b1, b2⟩ := (okKids_iff (hts _)).1 h3
  refine h ⟨by omega, by rw [b1]; unfold zints; rw [List.map_drop], ?_, b2⟩
  unfold fieldsB
  rw [(kinds_range _).2 hr, h2, Bool.true_and, Bool.and_true]
  unfold nameOkB
  by_cases h8 : n.kind = 3
  ·rw [if_pos h8]; exact a4 h8
  ·rw [if_neg h8]; exact decide_eq_true (a5 h8)
theorem land_stop {l : List Nd} {st : List Nat} {i : Nat} {n : Nd} (hu : mayUpTo l i = some st) (hi : l[i]? = some n) (h : ¬ (kidc n.kind ≤ st.length ∧ n.kids = (zints st).drop (st.length - kidc n.kind) ∧ fieldsB n = true ∧ kidsB l n = true)) : mayL l = false :=
 may_stop hu (List.getElem?_eq_some_iff.1 hi).1 (by rw [land_step hu hi]; unfold landStep; rw [if_neg h])
theorem land_go {l : List Nd} {st : List Nat} {i : Nat} {n : Nd} (hu : mayUpTo l i = some st) (hi : l[i]? = some n) (h : kidc n.kind ≤ st.length ∧ n.kids = (zints st).drop (st.length - kidc n.kind) ∧ fieldsB n = true ∧ kidsB l n = true) : mayUpTo l (i + 1) = some (st.take (st.length - kidc n.kind) ++ [i]) :=
 may_go hu (by rw [land_step hu hi]; unfold landStep; rw [if_pos h])
end Go.Proofs.YtdbgaccnejffpaaGreatDoor.Tree
