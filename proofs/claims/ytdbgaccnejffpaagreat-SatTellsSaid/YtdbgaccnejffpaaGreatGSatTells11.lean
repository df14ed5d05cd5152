/-
  Sets of numbers as lists of words, in plain arithmetic: which number is in, that a list without noughts at its end is told by what is in it, how many are in it, and which, in order. By an AI agent.
  Slices of words as a walk needs them: a slice that reads as a list of natural numbers below 2^64; the bits of two words. By an AI agent.
  How many bits a word has, as math/bits reckons it: by bits, by pairs, by halves of a byte, by bytes. By an AI agent.
  The walks of package bits and of its reference: what only reads: words, which are used, is a number in, within, the same, how many. By an AI agent.
  The reference's reach, node by node: steps (stage 14). By an AI agent.
  The reference's reach, node by node: tests (stage 14). By an AI agent.
  The reference's reach, node by node: two kids, one after the other (stage 14). By an AI agent.
-/
import Derived.Lib.TrailingZeros
import Derived.Test.YtdbgaccnejffpaaGreatGSatTells1
import Derived.Laws.Bits64b
import Derived.Laws.BitsLemmas
import Derived.IntWalk
import Derived.Test.YtdbgaccnejffpaaGreatChecked
import Derived.WalkKit
import Derived.WalkSpells
import Derived.WalkLawsBesides
import Derived.Below
import Derived.Lib.Hide
import Derived.BigQuiet
import Derived.Deep.QuietTactic
import Derived.Test.YtdbgaccnejffpaaGreatGSatTells10
import Derived.Test.YtdbgaccnejffpaaGreatGSatTells5
namespace Go.Proofs.YtdbgaccnejffpaaGreat.Words
def wd (xs : List Nat) (j : Nat) : Nat := xs[j]?.getD 0
def has (xs : List Nat) (k : Nat) : Bool := (xs[k / 64]?.getD 0).testBit (k % 64)
def Ws (xs : List Nat) : Prop := ∀ j : Nat, xs[j]?.getD 0 < 18446744073709551616
def Trimmed (xs : List Nat) : Prop := 0 < xs.length → xs[xs.length - 1]?.getD 0 ≠ 0
def IsSet (xs : List Nat) (f : Nat → Bool) : Prop := Ws xs ∧ Trimmed xs ∧ ∀ k, has xs k = f k
theorem out_getD {xs : List Nat} {j : Nat} (h : xs.length ≤ j) : xs[j]?.getD 0 = 0 := by rw [List.getElem?_eq_none h, Option.getD_none]
theorem IsSet.congr {xs : List Nat} {f g : Nat → Bool} (h : IsSet xs f) (e : ∀ k, f k = g k) : IsSet xs g := ⟨h.1, h.2.1, fun k => by rw [h.2.2, e]⟩
def Used (xs : List Nat) (n : Nat) : Prop := n ≤ xs.length ∧ (∀ j : Nat, n ≤ j → xs[j]?.getD 0 = 0) ∧ (0 < n → xs[n - 1]?.getD 0 ≠ 0)
theorem take_getD (xs : List Nat) (n j : Nat) : (xs.take n)[j]?.getD 0 = if j < n then xs[j]?.getD 0 else 0 := by
 by_cases h : j < n
 ·rw [if_pos h, List.getElem?_take_of_lt h]
 ·rw [if_neg h, List.getElem?_eq_none (by rw [List.length_take]; omega)]; rfl
theorem Used.set {xs : List Nat} {n : Nat} {f : Nat → Bool} (h : Used xs n) (hw : Ws xs) (hf : ∀ k, has xs k = f k) : IsSet (xs.take n) f := by
 have e : ∀ j : Nat, (xs.take n)[j]?.getD 0 = xs[j]?.getD 0 := fun j => by
  rw [take_getD]
  split
  ·rfl
  ·rw [h.2.1 j (by omega)]
 have hl : (xs.take n).length = n := by rw [List.length_take]; have := h.1; omega
 refine ⟨fun j => by rw [e]; exact hw j, fun h0 => ?_, fun k => by rw [← hf]; unfold has; rw [e]⟩
 rw [e, hl]
 exact h.2.2 (by omega)
theorem or_lt {a b : Nat} (ha : a < 18446744073709551616) (hb : b < 18446744073709551616) : a ||| b < 18446744073709551616 := Nat.or_lt_two_pow (n := 64) ha hb
def anot (a b : Nat) : Nat := a ^^^ (a &&& b)
end Go.Proofs.YtdbgaccnejffpaaGreat.Words

namespace Go.Proofs.YtdbgaccnejffpaaGreat.RdW
open Go.RowKit Go.Proofs.YtdbgaccnejffpaaGreat.Ints Go.Proofs.YtdbgaccnejffpaaGreat.Words
def ints (xs : List Nat) : List Int := xs.map Int.ofNat
theorem ints_at (xs : List Nat) (j : Nat) : (ints xs)[j]?.getD 0 = ((xs[j]?.getD 0 : Nat) : Int) := by
 unfold ints
 rw [List.getElem?_map]
 cases xs[j]? <;> rfl
theorem ints_len (xs : List Nat) : (ints xs).length = xs.length := by simp [ints]
theorem ints_take (xs : List Nat) (n : Nat) : (ints xs).take n = ints (xs.take n) := by simp [ints, List.map_take]
theorem ints_set (xs : List Nat) (j x : Nat) : (ints xs).set j (x : Int) = ints (xs.set j x) := by simp [ints, List.map_set]
theorem word_wf {x : Nat} (h : x < 18446744073709551616) : (Lit.int .u64 (x : Int)).wf = true := by
 simp [Lit.wf, IntKind.min, IntKind.max, IntKind.signed, IntKind.bits]
 omega
theorem ints_wf {xs : List Nat} (h : Ws xs) : ∀ z ∈ ints xs, (Lit.int .u64 z).wf = true := by
 intro z hz
 obtain ⟨x, hx, rfl⟩ := List.mem_map.1 hz
 obtain ⟨j, hj, rfl⟩ := List.getElem_of_mem hx
 have := h j
 rw [List.getElem?_eq_getElem hj] at this
 exact word_wf this
def RdW (w : World) (A : Option Addr) (n : Nat) (xs : List Nat) : Prop := Rd .u64 w A n (ints xs)
section
variable {w w' : World} {A : Option Addr} {n : Nat} {xs : List Nat}
theorem RdW.len (h : RdW w A n xs) : xs.length = n := by rw [← ints_len]; exact Rd.len h
theorem RdW.ws (h : RdW w A n xs) : Ws xs := fun j => by
 by_cases hj : j < n
 ·have := Rd.u64 h j hj
  rw [ints_at] at this
  omega
 ·rw [out_getD (by rw [h.len]; omega)]; omega
theorem RdW.cell (h : RdW w A n xs) : 0 < n → ∃ b off, A = some ⟨b, off, none⟩ ∧ ∀ j, j < n → w.cell? ⟨b, off + j, none⟩ = some (.int .u64 ((wd xs j : Nat) : Int)) := fun h0 => by
 obtain ⟨b, off, e, hc⟩ := Rd.cell h h0
 exact ⟨b, off, e, fun j hj => by rw [hc j hj, ints_at]; rfl⟩
theorem RdW.below (h : RdW w A n xs) (hb : Below w.heap.size w w') : RdW w' A n xs := Rd.below h hb
theorem RdW.take (h : RdW w A n xs) {m : Nat} (hm : m ≤ n) : RdW w A m (xs.take m) := by
 have := Rd.take h hm
 rwa [ints_take] at this
theorem RdW.own {base c : Nat} {e : TypeId} (h : w.ownsRow base e 1 (.slice A n c) n ((ints xs).map (Value.int .u64))) (hz : Ws xs) : RdW w A n xs := Rd.own h (ints_wf hz)
end
theorem shr_nat (x r : Nat) : (x : Int) / 2 ^ r = ((x / 2 ^ r : Nat) : Int) := by
 rw [Int.natCast_ediv, Int.natCast_pow]; rfl
theorem bit_one (x r : Nat) (hx : x < 18446744073709551616) : (bits .and .u64 ((x : Int) / 2 ^ r) 1 == 1) = x.testBit r := by
 have h := bits_and_u64_nat (x / 2 ^ r) 1 (Nat.lt_of_le_of_lt (Nat.div_le_self _ _) hx) (by omega)
 rw [shr_nat, show (1 : Int) = ((1 : Nat) : Int) from rfl, h, Nat.and_one_is_mod, Nat.testBit_eq_decide_div_mod_eq, Bool.eq_iff_iff, beq_iff_eq, decide_eq_true_iff]
 omega
end Go.Proofs.YtdbgaccnejffpaaGreat.RdW

namespace Go.Proofs.YtdbgaccnejffpaaGreat.Words
def val : List Nat → Nat
 | [] => 0
 | b :: r => b + 256 * val r
def bytes : Nat → Nat → List Nat
 | 0, _ => []
 | n + 1, x => x % 256 :: bytes n (x / 256)
def s1 (b : Nat) : Nat := (b / 2 &&& 85) + (b &&& 85)
def s2 (b : Nat) : Nat := (b / 4 &&& 51) + (b &&& 51)
def s3 (b : Nat) : Nat := b / 16 + b % 16
theorem b1 : ∀ b, b < 256 → ∀ r, r < 2 → (b / 2 + 128 * r) &&& 85 = b / 2 &&& 85 := by decide +kernel
theorem b2 : ∀ b, b < 256 → ∀ r, r < 4 → (b / 4 + 64 * r) &&& 51 = b / 4 &&& 51 := by decide +kernel
theorem b3 : ∀ b, b < 256 → s1 b < 256 ∧ s2 (s1 b) < 256 ∧ s2 (s1 b) / 16 ≤ 4 ∧ s2 (s1 b) % 16 ≤ 4 ∧ s3 (s2 (s1 b)) = ((List.range 8).filter b.testBit).length := by decide +kernel
theorem b4 : ∀ d, d < 256 → d &&& 15 = d % 16 := by decide +kernel
end Go.Proofs.YtdbgaccnejffpaaGreat.Words

namespace Go.Proofs.YtdbgaccnejffpaaGreat.BitsWalks
open Go.RowKit Go.Proofs.YtdbgaccnejffpaaGreat.Ints Go.Proofs.YtdbgaccnejffpaaGreat.Words Go.Proofs.YtdbgaccnejffpaaGreat.RdW
section
variable (A B : Option Addr) (n c m d : Nat) (xs ys : List Nat) (w : World)
theorem word (i : Nat) (h : RdW w A n xs) :
  Calls Tryz.prog 146 #[.slice A n c, .int .i64 i] w fun e w' => e = .returned (.int .u64 (wd xs i : Nat)) ∧ w = w' := by
 have hl := h.len
 have hcell := h.cell
 clear h
 by_cases hi : i < n
 ·obtain ⟨b, off, rfl, hc⟩ := hcell (by omega)
  have hc1 := hc i hi
  clear hcell hc
  have hi' : (i : Int) < (n : Int) := by omega
  go_enter Tryz.func146, Tryz.ntmps146
  go_wp2
  go_ret
  exact ⟨rfl, rfl⟩
 ·have hi' : ¬ (i : Int) < (n : Int) := by omega
  have ho : wd xs i = 0 := out_getD (by omega)
  go_enter Tryz.func146, Tryz.ntmps146
  go_wp2
  go_ret
  exact ⟨rfl, rfl⟩
def hasI (xs : List Nat) (n : Int) : Bool := decide (0 ≤ n) && has xs n.toNat
theorem has_at_ {xs : List Nat} (hw : Ws xs) (m : Nat) : (bits .and .u64 ((wd xs (m / 64) : Nat) / 2 ^ (m % 64) : Int) 1 == 1) = hasI xs m := by
 have h := bit_one (wd xs (m / 64)) (m % 64) (hw (m / 64))
 rw [h]
 simp [hasI, has, wd]
theorem has_ (k : Int) (hk : k ≤ 9223372036854775807) (h : RdW w A n xs) :
  Calls Tryz.prog 143 #[.slice A n c, .int .i64 k] w fun e w' => e = .returned (.bool (hasI xs k)) ∧ w = w' := by
 by_cases h0 : k < 0
 ·go_enter Tryz.func143, Tryz.ntmps143
  go_wp2
  go_ret
  exact ⟨by simp [hasI, show ¬ 0 ≤ k by omega], rfl⟩
 ·obtain ⟨m, rfl⟩ := Int.eq_ofNat_of_zero_le (show 0 ≤ k by omega)
  have hv := has_at_ h.ws m
  generalize hasI xs (m : Int) = r at *
  obtain ⟨q, hq⟩ : ∃ q, m / 64 = q := ⟨_, rfl⟩
  obtain ⟨b, hb⟩ : ∃ b, m % 64 = b := ⟨_, rfl⟩
  rw [hq, hb] at hv
  have e1 : (m : Int) / 64 = (q : Int) := by omega
  have e2 : (m : Int) % 64 = (b : Int) := by omega
  have e3 : (b : Int) ≤ 64 := by omega
  clear hq hb
  go_enter Tryz.func143, Tryz.ntmps143
  go_wp2_with (go_at_call 146; refine (word _ _ _ _ _ q h).mono ?_; rintro e w' ⟨rfl, rfl⟩)
  go_ret
  exact ⟨rfl, rfl⟩
theorem refHas (k : Int) (hk : k ≤ 9223372036854775807) (hn : n ≤ maxLen) (h : RdW w A n xs) :
  Calls Tryz.prog 123 #[.slice A n c, .int .i64 k] w fun e w' => e = .returned (.bool (hasI xs k)) ∧ w = w' := by
 unfold maxLen at hn
 by_cases h0 : k < 0
 ·go_enter Tryz.func123, Tryz.ntmps123
  go_wp2
  go_ret
  exact ⟨by simp [hasI, show ¬ 0 ≤ k by omega], rfl⟩
 ·obtain ⟨m, rfl⟩ := Int.eq_ofNat_of_zero_le (show 0 ≤ k by omega)
  have hv := has_at_ h.ws m
  have hout : ¬ m / 64 < n → hasI xs (m : Int) = false := fun hge => by
   simp [hasI, has, out_getD (xs := xs) (j := m / 64) (by rw [h.len]; omega)]
  generalize hasI xs (m : Int) = r at *
  have hcell := h.cell
  obtain ⟨q, hq⟩ : ∃ q, m / 64 = q := ⟨_, rfl⟩
  obtain ⟨b, hb⟩ : ∃ b, m % 64 = b := ⟨_, rfl⟩
  rw [hq, hb] at hv
  rw [hq] at hout
  have e1 : (m : Int) / 64 = (q : Int) := by omega
  have e2 : (m : Int) % 64 = (b : Int) := by omega
  have e3 : (b : Int) ≤ 64 := by omega
  have e4 : IntKind.u64.wrap (b : Int) = (b : Int) := by rw [IntKind.wrap_u64]; omega
  clear hq hb h
  by_cases hqn : q < n
  ·obtain ⟨g, off, rfl, hc⟩ := hcell (by omega)
   have hc1 := hc q hqn
   have e5 : (q : Int) < (n : Int) := by omega
   clear hcell hc hout
   go_enter Tryz.func123, Tryz.ntmps123
   go_wp2
   go_ret
   exact ⟨rfl, rfl⟩
  ·have e5 : ¬ (q : Int) < (n : Int) := by omega
   have e6 := hout hqn
   subst e6
   clear hcell hout hv
   go_enter Tryz.func123, Tryz.ntmps123
   go_wp2
   go_ret
   exact ⟨rfl, rfl⟩
end
end Go.Proofs.YtdbgaccnejffpaaGreat.BitsWalks

namespace Go.Proofs.YtdbgaccnejffpaaGreat.Paths
open Go.RowKit Go.Proofs.YtdbgaccnejffpaaGreat.Ints Go.Proofs.YtdbgaccnejffpaaGreat.Mem Go.Proofs.YtdbgaccnejffpaaGreat.Src Go.Proofs.YtdbgaccnejffpaaGreat.Tree Go.Proofs.YtdbgaccnejffpaaGreat.BitsWalks Go.Proofs.YtdbgaccnejffpaaGreat.RdW
def kidN (l : List Nd) (x q : Nat) : Nat := (((l[x]?.map (fun y : Nd => y.kids)).getD [])[q]?.getD 0).toNat
def rxOf (l : List Nd) (ts : List Int) (vs : Nat → List Nat) : Rx := ⟨kindN l, fun x => kidN l x 0, fun x => kidN l x 1, fun x i => hasI (vs i) (numT ts (x : Nat))⟩
def RdV (w : World) (V : Option Addr) (n : Nat) (vs : Nat → List Nat) : Prop := 0 < n → ∃ b off, V = some ⟨b, off, none⟩ ∧ ∀ i, i < n → ∃ K q c, w.cell? ⟨b, off + i, none⟩ = some (.slice K q c) ∧ RdW w K q (vs i) ∧ q ≤ c ∧ c ≤ maxLen
structure RIn (w : World) (A : Option Addr) (n : Nat) (l : List Nd) (T : Option Addr) (nt : Nat) (ts : List Int) (V : Option Addr) (nv : Nat) (vs : Nat → List Nat) : Prop where
 nodes : Nodes Tree.Any w A l
 may : mayL l = true
 len : l.length = n
 small : n ≤ 1048576
 tests : Rd .i64 w T nt ts
 nts : nt ≤ 1048576
 vals : RdV w V nv vs
 nvs : nv ≤ 1000000
def GotTab (w : World) (nv : Nat) (m : Tb) (e : Ending) (w' : World) : Prop := ∃ B R, e = .returned (.slice (some ⟨B, 0, none⟩) nv nv) ∧ Tab w' w.heap.size B R nv m ∧ Below w.heap.size w w'
def stepT (k : Nat) : Tb := fun i j => decide (i < k) && decide (j = i + 1)
theorem step_next (k i j : Nat) : updT (stepT k) k (k + 1) true i j = stepT (k + 1) i j := by
 unfold updT stepT
 by_cases h : i = k ∧ j = k + 1
 ·rw [if_pos h, decide_eq_true (by omega), decide_eq_true (by omega)]; rfl
 ·rw [if_neg h, Bool.eq_iff_iff, Bool.and_eq_true, Bool.and_eq_true, decide_eq_true_eq, decide_eq_true_eq, decide_eq_true_eq]
  omega
set_option maxHeartbeats 8000000 in
set_option maxRecDepth 100000 in
theorem reach_step (A T V : Option Addr) (n c nt ct nv cv at_ : Nat) (l : List Nd) (ts : List Int) (vs : Nat → List Nat) (w : World) (h : RIn w A n l T nt ts V nv vs) (hat : at_ < n) (hk : kindN l at_ = 18) (f : Nat) :
  Calls Tryz.prog 103 #[.slice A n c, .int .i64 (at_ : Nat), .slice T nt ct, .slice V nv cv] w (GotTab w nv (reachT (rxOf l ts vs) nv (f + 1) at_)) := by
 have hl := h.len
 have hs := h.small
 have hnv := h.nvs
 have HSQ := Lib.hid (refSquare nv w hnv)
 obtain ⟨b, off, rfl, hns⟩ := h.nodes (by omega)
 obtain ⟨nd, hnd⟩ : ∃ nd, l[at_]? = some nd := ⟨_, List.getElem?_eq_getElem (by omega)⟩
 have hkd : nd.kind = 18 := by rw [← kind_of hnd]; exact hk
 have HX := Lib.hid (show ∀ W, Below w.heap.size w W → ∃ K cK, W.cell? ⟨b, off + at_ * 5, none⟩ = some (.int .i64 nd.kind) ∧ W.cell? ⟨b, off + at_ * 5 + 1, none⟩ = some (.string nd.name) ∧ W.cell? ⟨b, off + at_ * 5 + 2, none⟩ = some (.int .i64 nd.lo) ∧ W.cell? ⟨b, off + at_ * 5 + 3, none⟩ = some (.int .i64 nd.hi) ∧ W.cell? ⟨b, off + at_ * 5 + 4, none⟩ = some (.slice K nd.kids.length cK) from fun W hb => by
  obtain ⟨x0, x1, x2, x3, s0, s2, s3, s1, K, cK, x4, -⟩ := hns at_ nd hnd
  rw [Nat.mul_comm 5 at_] at x0 x1 x2 x3 x4
  exact ⟨K, cK, Mem.below_cell hb x0, Mem.below_cell hb x1, Mem.below_cell hb x2, Mem.below_cell hb x3, Mem.below_cell hb x4⟩)
 have HE := Lib.hid (show ∀ i j, i < nv → j < nv → stepT (nv - 1) i j = reachT (rxOf l ts vs) nv (f + 1) at_ i j from fun i j hi hj => by
  unfold reachT stepT
  rw [if_pos (show (rxOf l ts vs).kd at_ = 18 from hk)]
  rw [Bool.eq_iff_iff]
  simp only [Bool.and_eq_true, decide_eq_true_eq]
  omega)
 rw [hkd] at HX
 clear h hns hnd hk hkd
 go_enter Tryz.func103, Tryz.ntmps103
 go_wp2_with fail
 refine HSQ.out.mono ?_
 rintro e w1 ⟨B, R, rfl, ht, hB1⟩
 obtain ⟨K, cK, x0, x1, x2, x3, x4⟩ := HX.out _ hB1
 have HT := Lib.hid ht
 have HB1 := Lib.hid hB1
 clear ht hB1 HX HSQ
 go_wp2_with fail
 have HB2 := Lib.hid (HB1.out.alloc HB1.out.size (.cells #[.int .i64 18, .string nd.name, .int .i64 nd.lo, .int .i64 nd.hi, .slice K nd.kids.length cK] 47))
 have HT2 := Lib.hid (HT.out.below ((Below.refl _ w1).alloc (Nat.le_refl _) (.cells #[.int .i64 18, .string nd.name, .int .i64 nd.lo, .int .i64 nd.hi, .slice K nd.kids.length cK] 47)))
 clear x0 x1 x2 x3 x4
 go_loopw [12] (fun v wr => ∃ i : Nat, v = .int .i64 (i : Nat) ∧ i ≤ nv - 1 ∧ Tab wr w.heap.size B R nv (stepT i) ∧ Below w.heap.size w wr) (fun v _ => nv - (intOf v).toNat)
 case atStart => exact ⟨0, rfl, Nat.zero_le _, HT2.out.ext (fun i j _ _ => rfl), HB2.out⟩
 case round =>
  obtain ⟨i, rfl, hin, ht, hB⟩ := hrel
  have HTi := Lib.hid ht
  have HB := Lib.hid hB
  by_cases hlt : i + 1 < nv
  ·have z1 := ht.outer (show i < nv by omega)
   have z2 := ht.inner (show i < nv by omega) hlt
   have f1 := own_fz (ht.row i (by omega)) (i + 1)
   have HN := Lib.hid ((ht.set (show i < nv by omega) hlt true).ext (fun a b _ _ => step_next i a b))
   have HBN := Lib.hid (hB.setCell (p := ⟨R i, i + 1, none⟩) ((ht.row i (by omega)).lt (R i) rfl).1 (.bool true))
   clear ht hB
   go_wp2_with fail
   go_roundw
   case rel => exact ⟨i + 1, by simp, by omega, HN.out, HBN.out⟩
   case measure => (show nv - (i + 1) < nv - i; omega)
  ·obtain rfl : i = nv - 1 := by omega
   have HX := Lib.hid (HTi.out.ext HE.out)
   clear ht hB
   go_wp2_with fail
   go_ret
   exact ⟨B, R, rfl, HX.out, HB.out⟩
end Go.Proofs.YtdbgaccnejffpaaGreat.Paths

namespace Go.Proofs.YtdbgaccnejffpaaGreat.Paths
open Go.RowKit Go.Proofs.YtdbgaccnejffpaaGreat.Ints Go.Proofs.YtdbgaccnejffpaaGreat.Mem Go.Proofs.YtdbgaccnejffpaaGreat.Src Go.Proofs.YtdbgaccnejffpaaGreat.Tree Go.Proofs.YtdbgaccnejffpaaGreat.BitsWalks Go.Proofs.YtdbgaccnejffpaaGreat.RdW
theorem RdV.below {w w' : World} {V : Option Addr} {n : Nat} {vs : Nat → List Nat} (h : RdV w V n vs) (hb : Below w.heap.size w w') : RdV w' V n vs := fun h0 => by
 obtain ⟨b, off, e, hc⟩ := h h0
 refine ⟨b, off, e, fun i hi => ?_⟩
 obtain ⟨K, q, c, x, hr, hq, hm⟩ := hc i hi
 exact ⟨K, q, c, Mem.below_cell hb x, hr.below hb, hq, hm⟩
theorem num_le (zs : List Int) (x : Int) : numT zs x ≤ (zs.length : Nat) ∧ -1 ≤ numT zs x := by
 unfold numT
 split <;> omega
def testT (h : Nat → Bool) (k : Nat) : Tb := fun i j => decide (i < k) && decide (j = i) && h i
theorem test_next (h : Nat → Bool) (k i j : Nat) : updT (testT h k) k k (h k) i j = testT h (k + 1) i j := by
 unfold updT testT
 by_cases e : i = k ∧ j = k
 ·obtain ⟨rfl, rfl⟩ := e
  rw [if_pos ⟨rfl, rfl⟩, decide_eq_true (by omega), decide_eq_true rfl]; rfl
 ·rw [if_neg e, show (decide (i < k + 1) && decide (j = i)) = (decide (i < k) && decide (j = i)) by
   rw [Bool.eq_iff_iff, Bool.and_eq_true, Bool.and_eq_true, decide_eq_true_eq, decide_eq_true_eq, decide_eq_true_eq]
   omega]
set_option maxHeartbeats 8000000 in
set_option maxRecDepth 100000 in
theorem reach_test (A T V : Option Addr) (n c nt ct nv cv at_ : Nat) (l : List Nd) (ts : List Int) (vs : Nat → List Nat) (w : World) (h : RIn w A n l T nt ts V nv vs) (htc : nt ≤ ct) (hat : at_ < n) (hk : kindN l at_ = 19) (f : Nat) :
  Calls Tryz.prog 103 #[.slice A n c, .int .i64 (at_ : Nat), .slice T nt ct, .slice V nv cv] w (GotTab w nv (reachT (rxOf l ts vs) nv (f + 1) at_)) := by
 have hl := h.len
 have hs := h.small
 have hnv := h.nvs
 have HSQ := Lib.hid (refSquare nv w hnv)
 have HV := Lib.hid h.vals
 have HNUM := Lib.hid (fun W (hb : Below w.heap.size w W) => refNumber T nt ct ts (at_ : Nat) W (Rd.below h.tests hb) htc h.nts)
 have hnl := num_le ts (at_ : Nat)
 rw [h.tests.len] at hnl
 have hnts := h.nts
 obtain ⟨b, off, rfl, hns⟩ := h.nodes (by omega)
 obtain ⟨nd, hnd⟩ : ∃ nd, l[at_]? = some nd := ⟨_, List.getElem?_eq_getElem (by omega)⟩
 have hkd : nd.kind = 19 := by rw [← kind_of hnd]; exact hk
 have HX := Lib.hid (show ∀ W, Below w.heap.size w W → ∃ K cK, W.cell? ⟨b, off + at_ * 5, none⟩ = some (.int .i64 nd.kind) ∧ W.cell? ⟨b, off + at_ * 5 + 1, none⟩ = some (.string nd.name) ∧ W.cell? ⟨b, off + at_ * 5 + 2, none⟩ = some (.int .i64 nd.lo) ∧ W.cell? ⟨b, off + at_ * 5 + 3, none⟩ = some (.int .i64 nd.hi) ∧ W.cell? ⟨b, off + at_ * 5 + 4, none⟩ = some (.slice K nd.kids.length cK) from fun W hb => by
  obtain ⟨x0, x1, x2, x3, s0, s2, s3, s1, K, cK, x4, -⟩ := hns at_ nd hnd
  rw [Nat.mul_comm 5 at_] at x0 x1 x2 x3 x4
  exact ⟨K, cK, Mem.below_cell hb x0, Mem.below_cell hb x1, Mem.below_cell hb x2, Mem.below_cell hb x3, Mem.below_cell hb x4⟩)
 obtain ⟨hh, hhe⟩ : ∃ hh : Nat → Bool, (fun i => hasI (vs i) (numT ts (at_ : Nat))) = hh := ⟨_, rfl⟩
 have HHH := Lib.hid (fun i => congrFun hhe i)
 have HE := Lib.hid (show ∀ i j, i < nv → j < nv → testT hh nv i j = reachT (rxOf l ts vs) nv (f + 1) at_ i j from fun i j hi hj => by
  unfold reachT testT
  rw [if_neg (show ¬ (rxOf l ts vs).kd at_ = 18 by rw [show (rxOf l ts vs).kd at_ = 19 from hk]; decide), if_pos (show (rxOf l ts vs).kd at_ = 19 from hk), decide_eq_true hi, Bool.true_and, ← hhe]
  rfl)
 rw [hkd] at HX
 obtain ⟨u, hu⟩ : ∃ u, numT ts (at_ : Nat) = u := ⟨_, rfl⟩
 rw [hu] at HNUM HHH hnl
 clear h hns hnd hk hkd hhe hu
 go_enter Tryz.func103, Tryz.ntmps103
 go_wp2_with fail
 refine HSQ.out.mono ?_
 rintro e w1 ⟨B, R, rfl, ht, hB1⟩
 obtain ⟨K, cK, x0, x1, x2, x3, x4⟩ := HX.out _ hB1
 have HT := Lib.hid ht
 have HB1 := Lib.hid hB1
 clear ht hB1 HX HSQ
 go_wp2_with fail
 have HB2 := Lib.hid (HB1.out.alloc HB1.out.size (.cells #[.int .i64 19, .string nd.name, .int .i64 nd.lo, .int .i64 nd.hi, .slice K nd.kids.length cK] 47))
 have HT2 := Lib.hid (HT.out.below ((Below.refl _ w1).alloc (Nat.le_refl _) (.cells #[.int .i64 19, .string nd.name, .int .i64 nd.lo, .int .i64 nd.hi, .slice K nd.kids.length cK] 47)))
 clear x0 x1 x2 x3 x4
 go_loopw [48] (fun v wr => ∃ i : Nat, v = .int .i64 (i : Nat) ∧ i ≤ nv ∧ Tab wr w.heap.size B R nv (testT hh i) ∧ Below w.heap.size w wr) (fun v _ => nv - (intOf v).toNat)
 case atStart => exact ⟨0, rfl, Nat.zero_le _, HT2.out.ext (fun i j _ _ => rfl), HB2.out⟩
 case round =>
  obtain ⟨i, rfl, hin, ht, hB⟩ := hrel
  have HTi := Lib.hid ht
  have HB := Lib.hid hB
  by_cases hlt : i < nv
  ·have z1 := ht.outer hlt
   have z2 := ht.inner hlt hlt
   have f1 := own_fz (ht.row i hlt) i
   have HN := Lib.hid (show ∀ y, y = hh i → Tab (wr.setCell ⟨R i, i, none⟩ (.bool y)) w.heap.size B R nv (testT hh (i + 1)) from fun y hy => by subst hy; exact (HTi.out.set hlt hlt (hh i)).ext (fun a b _ _ => test_next hh i a b))
   have HBN := Lib.hid (fun y : Bool => hB.setCell (p := ⟨R i, i, none⟩) ((ht.row i hlt).lt (R i) rfl).1 (.bool y))
   obtain ⟨bv, ov, rfl, hvs⟩ := HV.out (by omega)
   obtain ⟨Kv, qv, cv2, y1, hrd, hqc, hcm⟩ := hvs i hlt
   have y1 := Mem.below_cell hB y1
   have HHAS := Lib.hid (refHas Kv qv cv2 (vs i) wr.drew u (by omega) (by omega) (hrd.below hB.drew))
   have HNU := Lib.hid (HNUM.out wr.drew hB.drew)
   rw [HHH.out i] at HHAS
   obtain ⟨y, hy⟩ : ∃ y, hh i = y := ⟨_, rfl⟩
   rw [hy] at HHAS
   have HN := Lib.hid (HN.out y hy.symm)
   have HBN := Lib.hid (HBN.out y)
   clear ht hB hrd hvs hy
   go_wp2_with fail
   refine Late.drew [14] (S := fun W => W.cell? ⟨B, i, none⟩ = some (.slice (some ⟨R i, 0, none⟩) nv nv) ∧ W.cell? ⟨bv, ov + i, none⟩ = some (.slice Kv qv cv2)) (by kernel_rfl) ⟨z1, y1⟩ (fun hHeld => ?_)
   refine ltOp 0 hHeld ?_
   refine ltOp 1 hHeld ?_
   refine ltOp 2 hHeld ?_
   refine ltOp 3 hHeld ?_
   refine ltOp 4 hHeld ?_
   refine ltOp 5 hHeld ?_
   refine ltOp 6 hHeld ?_
   refine ltOp 7 hHeld ?_
   refine ltOp 8 hHeld ?_
   refine ltOp 9 hHeld ?_
   refine ltOp 10 hHeld ?_
   refine ltCall 11 (fun Kt hKt => ?_)
   go_simp
   (go_at_call 124; refine HNU.out.mono ?_; rintro e W3 ⟨rfl, hW3⟩; rw [hW3]; clear hW3)
   refine hKt.out _ _ ?_ (fun hT => ?_)
   ·(exact ⟨z1, y1⟩)
   clear hKt Kt hHeld
   have hHeld := hT
   clear hT
   try simp only [Act.put, tkA, tkB, tkC]
   refine ltCall 12 (fun Kt hKt => ?_)
   go_simp
   (go_at_call 123; refine HHAS.out.mono ?_; rintro e W4 ⟨rfl, hW4⟩; rw [← hW4]; clear hW4)
   refine hKt.out _ _ ?_ (fun hT => ?_)
   ·(exact ⟨z1, y1⟩)
   clear hKt Kt hHeld
   have hHeld := hT
   clear hT
   try simp only [Act.put, tkA, tkB, tkC]
   refine ltOp 13 hHeld ?_
   refine ltLast 14 (fun Kt hKt => ?_)
   go_simp
   refine hKt.out _ _ trivial (fun hT => ?_)
   clear hKt Kt hHeld
   have hHeld := hT
   clear hT
   try simp only [Act.put, tkA, tkB, tkC]
   refine wpAnyH_done (by kernel_rfl) ?_ _
   clear hHeld
   go_wp2_with fail
   go_roundw
   case rel => exact ⟨i + 1, by simp, by omega, HN.out.below (Below.refl _ _).drew, HBN.out.drew⟩
   case measure => (show nv - (i + 1) < nv - i; omega)
  ·obtain rfl : i = nv := by omega
   have HX := Lib.hid (HTi.out.ext HE.out)
   clear ht hB
   go_wp2_with fail
   go_ret
   exact ⟨B, R, rfl, HX.out, HB.out⟩
end Go.Proofs.YtdbgaccnejffpaaGreat.Paths

namespace Go.Proofs.YtdbgaccnejffpaaGreat.Paths
open Go.RowKit Go.Proofs.YtdbgaccnejffpaaGreat.Ints Go.Proofs.YtdbgaccnejffpaaGreat.Mem Go.Proofs.YtdbgaccnejffpaaGreat.Src Go.Proofs.YtdbgaccnejffpaaGreat.Tree Go.Proofs.YtdbgaccnejffpaaGreat.BitsWalks Go.Proofs.YtdbgaccnejffpaaGreat.RdW
theorem RIn.below {w w' : World} {A : Option Addr} {n : Nat} {l : List Nd} {T : Option Addr} {nt : Nat} {ts : List Int} {V : Option Addr} {nv : Nat} {vs : Nat → List Nat} (h : RIn w A n l T nt ts V nv vs) (hb : Below w.heap.size w w') : RIn w' A n l T nt ts V nv vs :=
 ⟨h.nodes.below hb, h.may, h.len, h.small, Rd.below h.tests hb, h.nts, h.vals.below hb, h.nvs⟩
theorem kid_len {l : List Nd} (h : mayL l = true) {i : Nat} {nd : Nd} (hi : l[i]? = some nd) : (nd.kids.length : Int) = arity nd.kind := by
 obtain ⟨st, -, h2, -, -⟩ := may_node h hi
 exact (shape_parts h2).2.1
theorem kidN_at {l : List Nd} {i : Nat} {nd : Nd} (hi : l[i]? = some nd) (j : Nat) : kidN l i j = (nd.kids[j]?.getD 0).toNat := by
 unfold kidN
 rw [hi]
 rfl
theorem node_kids {w : World} {A : Option Addr} {n : Nat} {l : List Nd} {T : Option Addr} {nt : Nat} {ts : List Int} {V : Option Addr} {nv : Nat} {vs : Nat → List Nat} (h : RIn w A n l T nt ts V nv vs) {at_ : Nat} (hat : at_ < n) {m : Nat} (hm : arity (kindN l at_) = (m : Nat)) (h0 : 0 < m) :
  ∃ (b off : Nat) (nd : Nd) (Kb ko cK : Nat), A = some ⟨b, off, none⟩ ∧ nd.kind = kindN l at_ ∧ m ≤ cK ∧ (∀ j, j < m → kidN l at_ j < at_) ∧ ∀ W, Below w.heap.size w W →
   W.cell? ⟨b, off + at_ * 5, none⟩ = some (.int .i64 nd.kind) ∧ W.cell? ⟨b, off + at_ * 5 + 1, none⟩ = some (.string nd.name) ∧ W.cell? ⟨b, off + at_ * 5 + 2, none⟩ = some (.int .i64 nd.lo) ∧ W.cell? ⟨b, off + at_ * 5 + 3, none⟩ = some (.int .i64 nd.hi) ∧
   W.cell? ⟨b, off + at_ * 5 + 4, none⟩ = some (.slice (some ⟨Kb, ko, none⟩) m cK) ∧ ∀ j, j < m → W.cell? ⟨Kb, ko + j, none⟩ = some (.int .i64 ((kidN l at_ j : Nat) : Int)) := by
 have hl := h.len
 obtain ⟨b, off, rfl, hns⟩ := h.nodes (by omega)
 obtain ⟨nd, hnd⟩ : ∃ nd, l[at_]? = some nd := ⟨_, List.getElem?_eq_getElem (by omega)⟩
 have hkl := kid_len h.may hnd
 rw [← kind_of hnd, hm] at hkl
 obtain ⟨x0, x1, x2, x3, s0, s2, s3, s1, K, cK, x4, xr, hc, -⟩ := hns at_ nd hnd
 rw [Nat.mul_comm 5 at_] at x0 x1 x2 x3 x4
 obtain rfl : nd.kids.length = m := by omega
 obtain ⟨Kb, ko, rfl, hcs⟩ := Rd.cell xr h0
 have hkid : ∀ j, j < nd.kids.length → nd.kids[j]?.getD 0 = ((kidN l at_ j : Nat) : Int) ∧ kidN l at_ j < at_ := fun j hj => by
  obtain ⟨t, ht, hlt, -⟩ := kid_nat h.may hnd hj
  rw [kidN_at hnd, ht]
  exact ⟨by simp, by simpa using hlt⟩
 refine ⟨b, off, nd, Kb, ko, cK, rfl, (kind_of hnd).symm, hc, fun j hj => (hkid j hj).2, fun W hb => ⟨Mem.below_cell hb x0, Mem.below_cell hb x1, Mem.below_cell hb x2, Mem.below_cell hb x3, Mem.below_cell hb x4, fun j hj => ?_⟩⟩
 have h2 := hcs j hj
 rw [(hkid j hj).1] at h2
 exact Mem.below_cell hb h2
theorem Tab.down {w : World} {lo lo' B : Nat} {R : Nat → Nat} {n : Nat} {m : Tb} (h : Tab w lo B R n m) (hlo : lo' ≤ lo) : Tab w lo' B R n m := by
 have go : ∀ {e : TypeId} {r : Nat} {xs : List Value}, w.ownsRow lo e 1 (.slice (some ⟨r, 0, none⟩) n n) n xs → w.ownsRow lo' e 1 (.slice (some ⟨r, 0, none⟩) n n) n xs := fun h => by
  refine ⟨h.1, ?_⟩
  rcases h.2 with h2 | ⟨g, cap, cur, e1, h4, h5, h6⟩
  ·exact .inl h2
  ·exact .inr ⟨g, cap, cur, e1, Nat.le_trans hlo h4, h5, h6⟩
 exact ⟨go h.out, fun i hi => go (h.row i hi), h.off⟩
set_option maxHeartbeats 8000000 in
set_option maxRecDepth 100000 in
theorem reach_seq (A T V : Option Addr) (n c nt ct nv cv at_ : Nat) (l : List Nd) (ts : List Int) (vs : Nat → List Nat) (w : World) (h : RIn w A n l T nt ts V nv vs) (hat : at_ < n) (hk : kindN l at_ = 21) (f : Nat)
  (ih : ∀ y, y < at_ → ∀ W, Below w.heap.size w W → Calls Tryz.prog 103 #[.slice A n c, .int .i64 (y : Nat), .slice T nt ct, .slice V nv cv] W (GotTab W nv (reachT (rxOf l ts vs) nv f y))) :
  Calls Tryz.prog 103 #[.slice A n c, .int .i64 (at_ : Nat), .slice T nt ct, .slice V nv cv] w (GotTab w nv (reachT (rxOf l ts vs) nv (f + 1) at_)) := by
 have q63 : maxLen = 9223372036854775807 := rfl
 have hs := h.small
 have hnv := h.nvs
 have HSQ := Lib.hid (refSquare nv w hnv)
 obtain ⟨b, off, nd, Kb, ko, cK, rfl, hkd, hcK, hlt, HX⟩ := node_kids h hat (m := 2) (by rw [hk]; rfl) (by decide)
 have HX := Lib.hid HX
 have HI0 := Lib.hid (ih (kidN l at_ 0) (hlt 0 (by decide)))
 have HI1 := Lib.hid (ih (kidN l at_ 1) (hlt 1 (by decide)))
 have HE := Lib.hid (show prodT nv (reachT (rxOf l ts vs) nv f (kidN l at_ 0)) (reachT (rxOf l ts vs) nv f (kidN l at_ 1)) = reachT (rxOf l ts vs) nv (f + 1) at_ from by
  conv => rhs; unfold reachT
  have e : (rxOf l ts vs).kd at_ = 21 := hk
  rw [if_neg (by rw [e]; decide), if_neg (by rw [e]; decide), if_neg (by rw [e]; decide), if_pos e]
  rfl)
 rw [hkd, hk] at HX
 obtain ⟨t0, ht0⟩ : ∃ t, reachT (rxOf l ts vs) nv f (kidN l at_ 0) = t := ⟨_, rfl⟩
 obtain ⟨t1, ht1⟩ : ∃ t, reachT (rxOf l ts vs) nv f (kidN l at_ 1) = t := ⟨_, rfl⟩
 have hl0 := hlt 0 (by decide)
 have hl1 := hlt 1 (by decide)
 rw [ht0] at HE HI0
 rw [ht1] at HE HI1
 have HK := Lib.hid (fun W (hb : Below w.heap.size w W) => And.intro ((HX.out W hb).2.2.2.2.2 0 (by decide)) ((HX.out W hb).2.2.2.2.2 1 (by decide)))
 obtain ⟨k0, hk0⟩ : ∃ t, kidN l at_ 0 = t := ⟨_, rfl⟩
 obtain ⟨k1, hk1⟩ : ∃ t, kidN l at_ 1 = t := ⟨_, rfl⟩
 rw [hk0] at HI0 HK hl0
 rw [hk1] at HI1 HK hl1
 clear h hlt ih hkd ht0 ht1 hk0 hk1
 go_enter Tryz.func103, Tryz.ntmps103
 go_wp2_with fail
 refine HSQ.out.mono ?_
 rintro e w1 ⟨B, R, rfl, -, hB1⟩
 obtain ⟨x0, x1, x2, x3, x4, -⟩ := HX.out _ hB1
 have HB1 := Lib.hid hB1
 clear hB1 HX HSQ
 go_wp2_with fail
 obtain ⟨V1, hV1⟩ : ∃ V1, w1.alloc (.cells #[.int .i64 21, .string nd.name, .int .i64 nd.lo, .int .i64 nd.hi, .slice (some ⟨Kb, ko, none⟩) 2 cK] 47) = V1 := ⟨_, rfl⟩
 have HBV := Lib.hid (show Below w.heap.size w V1 by rw [← hV1]; exact HB1.out.alloc HB1.out.size _)
 have hblk : V1.heap[w1.heap.size]? = some (.cells #[.int .i64 21, .string nd.name, .int .i64 nd.lo, .int .i64 nd.hi, .slice (some ⟨Kb, ko, none⟩) 2 cK] 47 (0, 0)) := by rw [← hV1]; exact heap_alloc_new w1 _
 have c0 : V1.cell? ⟨w1.heap.size, 4, none⟩ = some (.slice (some ⟨Kb, ko, none⟩) 2 cK) := by
  rw [cell_of_row V1 w1.heap.size 4 _ _ _ hblk]
  rfl
 rw [hV1]
 clear hV1 hblk x0 x1 x2 x3 x4
 obtain ⟨c1, c2⟩ := HK.out V1 HBV.out
 rw [Nat.add_zero] at c1
 refine wp_region_held_drew (S := fun W => W.cell? ⟨w1.heap.size, 4, none⟩ = some (.slice (some ⟨Kb, ko, none⟩) 2 cK) ∧ W.cell? ⟨Kb, ko, none⟩ = some (.int .i64 (k0 : Nat)) ∧ W.cell? ⟨Kb, ko + 1, none⟩ = some (.int .i64 (k1 : Nat))) (by kernel_rfl) ⟨c0, c1, c2⟩ (fun hHeld => ?_)
 have HI0 := Lib.hid (HI0.out V1.drew HBV.out.drew)
 refine tkOp 0 hHeld ?_
 refine tkOp 1 hHeld ?_
 refine tkOp 2 hHeld ?_
 refine tkOp 3 hHeld ?_
 refine tkOp 4 hHeld ?_
 refine tkOp 5 hHeld ?_
 refine tkOp 6 hHeld ?_
 refine tkOp 8 hHeld ?_
 refine tkOp 9 hHeld ?_
 refine tkOp 10 hHeld ?_
 refine tkOp 11 hHeld ?_
 refine tkOp 12 hHeld ?_
 refine tkOp 13 hHeld ?_
 refine tkOp 14 hHeld ?_
 refine tkCall 7 (fun Kt hKt => ?_)
 go_simp
 (go_at_call 103; refine HI0.out.mono ?_; rintro e w2 ⟨B2, R2, rfl, ht2, hB2⟩; have HB2 := Lib.hid hB2; have HT2 := Lib.hid ht2; clear hB2 ht2; have HI1 := Lib.hid (HI1.out w2 (HBV.out.drew.trans (HB2.out.mono HBV.out.size))))
 refine hKt.out _ _ ?_ (fun hT => ?_)
 ·(exact ⟨Mem.below_cell HB2.out c0, Mem.below_cell HB2.out c1, Mem.below_cell HB2.out c2⟩)
 clear hKt Kt hHeld
 have hHeld := hT
 clear hT
 try simp only [Act.put, tkA, tkB, tkC]
 refine tkCall 15 (fun Kt hKt => ?_)
 go_simp
 (go_at_call 103; refine HI1.out.mono ?_; rintro e w3 ⟨B3, R3, rfl, ht3, hB3⟩; have HB3 := Lib.hid hB3; have HT3 := Lib.hid ht3; clear hB3 ht3; have HP := Lib.hid (refProduct (some ⟨B2, 0, none⟩) (some ⟨B3, 0, none⟩) nv nv nv nv t0 t1 w3 hnv ((HT2.out.below HB3.out).reads (by omega)) (HT3.out.reads (by omega)) (Nat.le_refl _) rfl (Nat.le_refl _)))
 refine hKt.out _ _ ?_ (fun hT => ?_)
 ·(exact ⟨Mem.below_cell HB3.out (Mem.below_cell HB2.out c0), Mem.below_cell HB3.out (Mem.below_cell HB2.out c1), Mem.below_cell HB3.out (Mem.below_cell HB2.out c2)⟩)
 clear hKt Kt hHeld
 have hHeld := hT
 clear hT
 try simp only [Act.put, tkA, tkB, tkC]
 refine tkCall 16 (fun Kt hKt => ?_)
 go_simp
 (go_at_call 125; refine HP.out.mono ?_; rintro e w4 ⟨B4, R4, rfl, ht4, hB4⟩; have HB4 := Lib.hid hB4; have HT4 := Lib.hid ht4; clear hB4 ht4)
 refine hKt.out _ _ ?_ (fun hT => ?_)
 ·(exact ⟨Mem.below_cell HB4.out (Mem.below_cell HB3.out (Mem.below_cell HB2.out c0)), Mem.below_cell HB4.out (Mem.below_cell HB3.out (Mem.below_cell HB2.out c1)), Mem.below_cell HB4.out (Mem.below_cell HB3.out (Mem.below_cell HB2.out c2))⟩)
 clear hKt Kt hHeld
 have hHeld := hT
 clear hT
 try simp only [Act.put, tkA, tkB, tkC]
 refine tkOp 17 hHeld ?_
 refine wpAnyH_done (by kernel_rfl) ?_ _
 have hs2 : w.heap.size ≤ V1.heap.size := HBV.out.size
 have hs3 : V1.heap.size ≤ w2.heap.size := HB2.out.size
 have hs4 : w2.heap.size ≤ w3.heap.size := HB3.out.size
 have HBE := Lib.hid (((HBV.out.drew.trans (HB2.out.mono HBV.out.size)).trans (HB3.out.mono (Nat.le_trans hs2 hs3))).trans (HB4.out.mono (Nat.le_trans (Nat.le_trans hs2 hs3) hs4)))
 have HTE := Lib.hid (HT4.out.down (lo' := w.heap.size) (Nat.le_trans (Nat.le_trans hs2 hs3) hs4))
 rw [HE.out] at HTE
 clear hHeld c0 c1 c2 hs2 hs3 hs4
 go_wp2_with fail
 go_ret
 exact ⟨B4, R4, rfl, HTE.out, HBE.out⟩
end Go.Proofs.YtdbgaccnejffpaaGreat.Paths
