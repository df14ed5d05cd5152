/-
  Sets of numbers as lists of words, in plain arithmetic: which number is in, that a list without noughts at its end is told by what is in it, how many are in it, and which, in order. By an AI agent.
  Slices of words as a walk needs them: a slice that reads as a list of natural numbers below 2^64; the bits of two words. By an AI agent.
  How many bits a word has, as math/bits reckons it: by bits, by pairs, by halves of a byte, by bytes. By an AI agent.
  The walks of package bits and of its reference: what only reads: words, which are used, is a number in, within, the same, how many. By an AI agent.
  The reference's reach, node by node: steps (stage 14). By an AI agent.
  The reference's reach, node by node: tests (stage 14). By an AI agent.
-/
import Derived.Lib.TrailingZeros
import Derived.Test.YtcpmcgbjmncalaaGPathsUnion1
import Derived.Laws.Bits64b
import Derived.Laws.BitsLemmas
import Derived.IntWalk
import Derived.Test.YtcpmcgbjmncalaaChecked
import Derived.WalkKit
import Derived.WalkSpells
import Derived.WalkLawsBesides
import Derived.Below
import Derived.Lib.Hide
import Derived.BigQuiet
import Derived.Deep.QuietTactic
import Derived.Test.YtcpmcgbjmncalaaGPathsUnion9
import Derived.Test.YtcpmcgbjmncalaaGPathsUnion3
namespace Go.Proofs.Ytcpmcgbjmncalaa.Words

/-- The word at place j; 0 behind the end. -/
def wd (xs : List Nat) (j : Nat) : Nat := xs[j]?.getD 0
/-- Is k in the set? -/
def has (xs : List Nat) (k : Nat) : Bool := (xs[k / 64]?.getD 0).testBit (k % 64)
def Ws (xs : List Nat) : Prop := ∀ j : Nat, xs[j]?.getD 0 < 18446744073709551616
def Trimmed (xs : List Nat) : Prop := 0 < xs.length → xs[xs.length - 1]?.getD 0 ≠ 0
/-- The set, as it is told: no noughts at the end. -/
def IsSet (xs : List Nat) (f : Nat → Bool) : Prop := Ws xs ∧ Trimmed xs ∧ ∀ k, has xs k = f k

theorem out_getD {xs : List Nat} {j : Nat} (h : xs.length ≤ j) : xs[j]?.getD 0 = 0 := by rw [List.getElem?_eq_none h, Option.getD_none]
theorem has_at (xs : List Nat) (j i : Nat) (hi : i < 64) : has xs (64 * j + i) = (xs[j]?.getD 0).testBit i := by
  unfold has
  rw [show (64 * j + i) / 64 = j by omega, show (64 * j + i) % 64 = i by omega]
theorem list_ext {xs ys : List Nat} (hl : xs.length = ys.length) (h : ∀ j : Nat, j < xs.length → xs[j]?.getD 0 = ys[j]?.getD 0) : xs = ys := by
  apply List.ext_getElem hl
  intro j h1 h2
  have := h j h1
  rwa [List.getElem?_eq_getElem h1, List.getElem?_eq_getElem h2, Option.getD_some, Option.getD_some] at this
theorem IsSet.congr {xs : List Nat} {f g : Nat → Bool} (h : IsSet xs f) (e : ∀ k, f k = g k) : IsSet xs g := ⟨h.1, h.2.1, fun k => by rw [h.2.2, e]⟩
/-- n is how many words there are without the noughts at the end. -/
def Used (xs : List Nat) (n : Nat) : Prop := n ≤ xs.length ∧ (∀ j : Nat, n ≤ j → xs[j]?.getD 0 = 0) ∧ (0 < n → xs[n - 1]?.getD 0 ≠ 0)
theorem take_getD (xs : List Nat) (n j : Nat) : (xs.take n)[j]?.getD 0 = if j < n then xs[j]?.getD 0 else 0 := by
  by_cases h : j < n
  · rw [if_pos h, List.getElem?_take_of_lt h]
  · rw [if_neg h, List.getElem?_eq_none (by rw [List.length_take]; omega)]; rfl
theorem Used.set {xs : List Nat} {n : Nat} {f : Nat → Bool} (h : Used xs n) (hw : Ws xs) (hf : ∀ k, has xs k = f k) : IsSet (xs.take n) f := by
  have e : ∀ j : Nat, (xs.take n)[j]?.getD 0 = xs[j]?.getD 0 := fun j => by
    rw [take_getD]
    split
    · rfl
    · rw [h.2.1 j (by omega)]
  have hl : (xs.take n).length = n := by rw [List.length_take]; have := h.1; omega
  refine ⟨fun j => by rw [e]; exact hw j, fun h0 => ?_, fun k => by rw [← hf]; unfold has; rw [e]⟩
  rw [e, hl]
  exact h.2.2 (by omega)

/-- n words: word j is f j. -/
def tab (n : Nat) (f : Nat → Nat) : List Nat := (List.range n).map f
theorem tab_len (n : Nat) (f : Nat → Nat) : (tab n f).length = n := by simp [tab]
theorem tab_at (n : Nat) (f : Nat → Nat) (j : Nat) : (tab n f)[j]?.getD 0 = if j < n then f j else 0 := by
  unfold tab
  by_cases h : j < n
  · simp [h]
  · simp [h]
/-! ### what is in both, in one, in the first alone -/
theorem or_lt {a b : Nat} (ha : a < 18446744073709551616) (hb : b < 18446744073709551616) : a ||| b < 18446744073709551616 := Nat.or_lt_two_pow (n := 64) ha hb
/-- a &^ b, of words. -/
def anot (a b : Nat) : Nat := a ^^^ (a &&& b)
/-- The words f of a b, up to where they end. -/
theorem has_tab {n : Nat} {f : Nat → Nat} (hf : ∀ j, n ≤ j → f j = 0) (k : Nat) : has (tab n f) k = (f (k / 64)).testBit (k % 64) := by
  unfold has
  rw [tab_at]
  split
  · rfl
  · rw [hf _ (by omega)]
/-! ### how many, and which -/
/-- The bits of a word, in order. -/
def bitsOf (x : Nat) : List Nat := (List.range 64).filter x.testBit
/-- The numbers of a set, in order; the first word's are from 64 i on. -/
def elems : Nat → List Nat → List Nat
  | _, [] => []
  | i, x :: r => (bitsOf x).map (64 * i + ·) ++ elems (i + 1) r
def total (xs : List Nat) : Nat := (xs.map fun x => (bitsOf x).length).sum
theorem elems_len : ∀ (i : Nat) (xs : List Nat), (elems i xs).length = total xs
  | _, [] => rfl
  | i, x :: r => by simp [elems, total, elems_len (i + 1) r]
theorem elems_append : ∀ (i : Nat) (xs ys : List Nat), elems i (xs ++ ys) = elems i xs ++ elems (i + xs.length) ys
  | _, [], ys => by simp [elems]
  | i, x :: r, ys => by simp [elems, elems_append (i + 1) r ys, Nat.add_assoc, Nat.add_comm 1]
theorem take_snoc' (l : List Nat) (k : Nat) (h : k < l.length) : l.take (k + 1) = l.take k ++ [l[k]?.getD 0] := by
  rw [List.take_succ_eq_append_getElem h]; simp [List.getElem?_eq_getElem h]
theorem elems_snoc (xs : List Nat) (k : Nat) (h : k < xs.length) : elems 0 (xs.take (k + 1)) = elems 0 (xs.take k) ++ (bitsOf (xs[k]?.getD 0)).map (64 * k + ·) := by
  rw [take_snoc' xs k h, elems_append]
  simp [elems, Nat.min_eq_left (Nat.le_of_lt h)]
theorem bits_le (x : Nat) : (bitsOf x).length ≤ 64 := by
  have := List.length_filter_le x.testBit (List.range 64)
  simpa [bitsOf] using this
theorem total_le : ∀ xs : List Nat, total xs ≤ 64 * xs.length
  | [] => by simp [total]
  | x :: r => by
    have h1 := bits_le x
    have h2 := total_le r
    simp only [total, List.map_cons, List.sum_cons, List.length_cons] at h2 ⊢
    omega
theorem mem_elems : ∀ (i : Nat) (xs : List Nat) (k : Nat), k ∈ elems i xs ↔ 64 * i ≤ k ∧ has xs (k - 64 * i) = true
  | i, [], k => by simp [elems, has]
  | i, x :: r, k => by
    rw [elems, List.mem_append, mem_elems (i + 1) r k]
    constructor
    · rintro (h | ⟨h1, h2⟩)
      · obtain ⟨b, hb, rfl⟩ := List.mem_map.1 h
        obtain ⟨h1, h2⟩ := List.mem_filter.1 hb
        rw [List.mem_range] at h1
        refine ⟨by omega, ?_⟩
        have := has_at (x :: r) 0 b h1
        rw [show 64 * i + b - 64 * i = 64 * 0 + b by omega, this]
        simpa using h2
      · refine ⟨by omega, ?_⟩
        unfold has at h2 ⊢
        rw [show (k - 64 * i) / 64 = (k - 64 * (i + 1)) / 64 + 1 by omega, show (k - 64 * i) % 64 = (k - 64 * (i + 1)) % 64 by omega]
        simpa using h2
    · rintro ⟨h1, h2⟩
      by_cases hk : k < 64 * (i + 1)
      · refine .inl (List.mem_map.2 ⟨k - 64 * i, ?_, by omega⟩)
        refine List.mem_filter.2 ⟨List.mem_range.2 (by omega), ?_⟩
        have := has_at (x :: r) 0 (k - 64 * i) (by omega)
        rw [show 64 * 0 + (k - 64 * i) = k - 64 * i by omega] at this
        rw [this] at h2
        simpa using h2
      · refine .inr ⟨by omega, ?_⟩
        unfold has at h2 ⊢
        rw [show (k - 64 * i) / 64 = (k - 64 * (i + 1)) / 64 + 1 by omega, show (k - 64 * i) % 64 = (k - 64 * (i + 1)) % 64 by omega] at h2
        simpa using h2
theorem has_elems (xs : List Nat) (k : Nat) : k ∈ elems 0 xs ↔ has xs k = true := by simpa using mem_elems 0 xs k
theorem has_lt {xs : List Nat} {k : Nat} (h : has xs k = true) : k < 64 * xs.length := by
  apply Nat.lt_of_not_le
  intro hle
  unfold has at h
  rw [out_getD (by omega)] at h
  simp at h
/-! ### they rise -/
/-! ### the lowest bit is taken away -/
end Go.Proofs.Ytcpmcgbjmncalaa.Words

namespace Go.Proofs.Ytcpmcgbjmncalaa.RdW
open Go.RowKit Go.Proofs.Ytcpmcgbjmncalaa.Ints Go.Proofs.Ytcpmcgbjmncalaa.Words

/-- Natural numbers as the model's. -/
def ints (xs : List Nat) : List Int := xs.map Int.ofNat
theorem ints_at (xs : List Nat) (j : Nat) : (ints xs)[j]?.getD 0 = ((xs[j]?.getD 0 : Nat) : Int) := by
  unfold ints
  rw [List.getElem?_map]
  cases xs[j]? <;> rfl
theorem ints_len (xs : List Nat) : (ints xs).length = xs.length := by simp [ints]
theorem ints_take (xs : List Nat) (n : Nat) : (ints xs).take n = ints (xs.take n) := by simp [ints, List.map_take]
theorem ints_append (xs ys : List Nat) : ints (xs ++ ys) = ints xs ++ ints ys := by simp [ints]
theorem ints_set (xs : List Nat) (j x : Nat) : (ints xs).set j (x : Int) = ints (xs.set j x) := by simp [ints, List.map_set]
theorem word_wf {x : Nat} (h : x < 18446744073709551616) : (Lit.int .u64 (x : Int)).wf = true := by
  simp [Lit.wf, IntKind.min, IntKind.max, IntKind.signed, IntKind.bits]
  omega
theorem ints_wf {xs : List Nat} (h : Ws xs) : ∀ z ∈ ints xs, (Lit.int .u64 z).wf = true := by
  intro z hz
  obtain ⟨x, hx, rfl⟩ := List.mem_map.1 hz
  obtain ⟨j, hj, rfl⟩ := List.getElem_of_mem hx
  have := h j
  rw [List.getElem?_eq_getElem hj] at this
  exact word_wf this

/-- The slice of address A and length n reads as the words xs. -/
def RdW (w : World) (A : Option Addr) (n : Nat) (xs : List Nat) : Prop := Rd .u64 w A n (ints xs)

section
variable {w w' : World} {A : Option Addr} {n : Nat} {xs : List Nat}
theorem RdW.len (h : RdW w A n xs) : xs.length = n := by rw [← ints_len]; exact Rd.len h
theorem RdW.ws (h : RdW w A n xs) : Ws xs := fun j => by
  by_cases hj : j < n
  · have := Rd.u64 h j hj
    rw [ints_at] at this
    omega
  · rw [out_getD (by rw [h.len]; omega)]; omega
theorem RdW.cell (h : RdW w A n xs) : 0 < n → ∃ b off, A = some ⟨b, off, none⟩ ∧ ∀ j, j < n → w.cell? ⟨b, off + j, none⟩ = some (.int .u64 ((wd xs j : Nat) : Int)) := fun h0 => by
  obtain ⟨b, off, e, hc⟩ := Rd.cell h h0
  exact ⟨b, off, e, fun j hj => by rw [hc j hj, ints_at]; rfl⟩
theorem RdW.below (h : RdW w A n xs) (hb : Below w.heap.size w w') : RdW w' A n xs := Rd.below h hb
theorem RdW.take (h : RdW w A n xs) {m : Nat} (hm : m ≤ n) : RdW w A m (xs.take m) := by
  have := Rd.take h hm
  rwa [ints_take] at this
theorem RdW.drewN (h : RdW w A n xs) (q : Nat) : RdW (w.drewN q) A n xs := Rd.drewN h q
theorem RdW.drew (h : RdW w A n xs) : RdW w.drew A n xs := h
theorem RdW.own {base c : Nat} {e : TypeId} (h : w.ownsRow base e 1 (.slice A n c) n ((ints xs).map (Value.int .u64))) (hz : Ws xs) : RdW w A n xs := Rd.own h (ints_wf hz)
theorem rdW_of {zs : List Int} (h : Rd .u64 w A n zs) : ∃ xs, RdW w A n xs := by
  refine ⟨zs.map Int.toNat, ?_⟩
  have e : ints (zs.map Int.toNat) = zs := by
    unfold ints
    rw [List.map_map]
    conv => rhs; rw [← List.map_id zs]
    apply List.map_congr_left
    intro z hz
    have := wf_u64 (h.all z hz)
    exact Int.toNat_of_nonneg this.1
  unfold RdW
  rwa [e]
theorem RdW.nil (w : World) (A : Option Addr) : RdW w A 0 [] := Rd.nil _ _ _
end

/-! ### bits of words -/
theorem shr_nat (x r : Nat) : (x : Int) / 2 ^ r = ((x / 2 ^ r : Nat) : Int) := by
  rw [Int.natCast_ediv, Int.natCast_pow]; rfl
/-- 'x >> r & 1 == 1' -/
theorem bit_one (x r : Nat) (hx : x < 18446744073709551616) : (bits .and .u64 ((x : Int) / 2 ^ r) 1 == 1) = x.testBit r := by
  have h := bits_and_u64_nat (x / 2 ^ r) 1 (Nat.lt_of_le_of_lt (Nat.div_le_self _ _) hx) (by omega)
  rw [shr_nat, show (1 : Int) = ((1 : Nat) : Int) from rfl, h, Nat.and_one_is_mod, Nat.testBit_eq_decide_div_mod_eq, Bool.eq_iff_iff, beq_iff_eq, decide_eq_true_iff]
  omega
end Go.Proofs.Ytcpmcgbjmncalaa.RdW

namespace Go.Proofs.Ytcpmcgbjmncalaa.Words

/-- Bytes as a number, the lowest first. -/
def val : List Nat → Nat
  | [] => 0
  | b :: r => b + 256 * val r
def rep (c : Nat) : Nat → Nat
  | 0 => 0
  | n + 1 => c + 256 * rep c n
def bytes : Nat → Nat → List Nat
  | 0, _ => []
  | n + 1, x => x % 256 :: bytes n (x / 256)
theorem bytes_lt : ∀ (n x b : Nat), b ∈ bytes n x → b < 256
  | 0, _, _, h => by simp [bytes] at h
  | n + 1, x, b, h => by
    rcases List.mem_cons.1 h with rfl | h
    · omega
    · exact bytes_lt n _ b h
theorem val_bytes : ∀ (n x : Nat), x < 256 ^ n → val (bytes n x) = x
  | 0, x, h => by simp at h; simp [bytes, val, h]
  | n + 1, x, h => by
    rw [Nat.pow_succ] at h
    rw [bytes, val, val_bytes n (x / 256) (by omega)]
    omega
theorem and_val (b c q m : Nat) (hb : b < 256) (hc : c < 256) : (b + 256 * q) &&& (c + 256 * m) = (b &&& c) + 256 * (q &&& m) := by
  have hbc : b &&& c < 2 ^ 8 := Nat.and_lt_two_pow _ hc
  apply Nat.eq_of_testBit_eq
  intro i
  have e : ∀ x y, x < 2 ^ 8 → (x + 256 * y).testBit i = if i < 8 then x.testBit i else y.testBit (i - 8) := fun x y hx => by
    rw [Nat.add_comm, show (256 : Nat) = 2 ^ 8 from rfl, Nat.testBit_two_pow_mul_add _ hx]
  rw [Nat.testBit_and, e _ _ hb, e _ _ hc, e _ _ hbc]
  split <;> rw [Nat.testBit_and]

def s1 (b : Nat) : Nat := (b / 2 &&& 85) + (b &&& 85)
def s2 (b : Nat) : Nat := (b / 4 &&& 51) + (b &&& 51)
def s3 (b : Nat) : Nat := b / 16 + b % 16
theorem b1 : ∀ b, b < 256 → ∀ r, r < 2 → (b / 2 + 128 * r) &&& 85 = b / 2 &&& 85 := by decide +kernel
theorem b2 : ∀ b, b < 256 → ∀ r, r < 4 → (b / 4 + 64 * r) &&& 51 = b / 4 &&& 51 := by decide +kernel
theorem b3 : ∀ b, b < 256 → s1 b < 256 ∧ s2 (s1 b) < 256 ∧ s2 (s1 b) / 16 ≤ 4 ∧ s2 (s1 b) % 16 ≤ 4 ∧ s3 (s2 (s1 b)) = ((List.range 8).filter b.testBit).length := by decide +kernel
theorem b4 : ∀ d, d < 256 → d &&& 15 = d % 16 := by decide +kernel

theorem step1 : ∀ l : List Nat, (∀ b ∈ l, b < 256) → (val l / 2 &&& rep 85 l.length) + (val l &&& rep 85 l.length) = val (l.map s1)
  | [], _ => by simp [val, rep]
  | b :: r, h => by
    have hb := h b (by simp)
    have ih := step1 r (fun c hc => h c (by simp [hc]))
    have e : val (b :: r) / 2 = (b / 2 + 128 * (val r % 2)) + 256 * (val r / 2) := by simp only [val]; omega
    rw [e]
    simp only [val, List.length_cons, rep, List.map_cons]
    rw [and_val _ _ _ _ (by omega) (by omega), and_val _ _ _ _ hb (by omega), b1 b hb _ (by omega), ← ih]
    unfold s1
    omega
theorem step2 : ∀ l : List Nat, (∀ b ∈ l, b < 256) → (val l / 4 &&& rep 51 l.length) + (val l &&& rep 51 l.length) = val (l.map s2)
  | [], _ => by simp [val, rep]
  | b :: r, h => by
    have hb := h b (by simp)
    have ih := step2 r (fun c hc => h c (by simp [hc]))
    have e : val (b :: r) / 4 = (b / 4 + 64 * (val r % 4)) + 256 * (val r / 4) := by simp only [val]; omega
    rw [e]
    simp only [val, List.length_cons, rep, List.map_cons]
    rw [and_val _ _ _ _ (by omega) (by omega), and_val _ _ _ _ hb (by omega), b2 b hb _ (by omega), ← ih]
    unfold s2
    omega
theorem step3 : ∀ l : List Nat, (∀ b ∈ l, b / 16 ≤ 4 ∧ b % 16 ≤ 4) → (val l / 16 + val l) &&& rep 15 l.length = val (l.map s3)
  | [], _ => by simp [val, rep]
  | b :: r, h => by
    have hb := h b (by simp)
    have ih := step3 r (fun c hc => h c (by simp [hc]))
    have hr : val r % 16 ≤ 4 := by
      cases r with
      | nil => simp [val]
      | cons c t =>
        have := (h c (by simp)).2
        simp only [val]
        omega
    have e : val (b :: r) / 16 + val (b :: r) = (b / 16 + 16 * (val r % 16) + b) + 256 * (val r / 16 + val r) := by simp only [val]; omega
    rw [e]
    simp only [List.length_cons, rep, List.map_cons]
    rw [and_val _ _ _ _ (by omega) (by omega), ih, b4 _ (by omega)]
    simp only [val, s3]
    omega
theorem count_bytes : ∀ (n x : Nat), ((List.range (8 * n)).filter x.testBit).length = ((bytes n x).map fun b => ((List.range 8).filter b.testBit).length).sum
  | 0, x => by simp [bytes]
  | n + 1, x => by
    rw [show 8 * (n + 1) = 8 + 8 * n by omega, List.range_add, List.filter_append, List.length_append, bytes, List.map_cons, List.sum_cons, ← count_bytes n (x / 256)]
    congr 1
    · congr 1
      apply List.filter_congr
      intro i hi
      rw [show (256 : Nat) = 2 ^ 8 from rfl, Nat.testBit_mod_two_pow]
      simp [List.mem_range.1 hi]
    · rw [List.filter_map, List.length_map]
      congr 1
      apply List.filter_congr
      intro i _
      rw [show (256 : Nat) = 2 ^ 8 from rfl, Nat.testBit_div_two_pow, Function.comp, Nat.add_comm]

theorem eight {l : List Nat} (h : l.length = 8) : ∃ a0 a1 a2 a3 a4 a5 a6 a7, l = [a0, a1, a2, a3, a4, a5, a6, a7] := by
  match l, h with
  | [a0, a1, a2, a3, a4, a5, a6, a7], _ => exact ⟨a0, a1, a2, a3, a4, a5, a6, a7, rfl⟩
theorem bytes_len : ∀ n x, (bytes n x).length = n
  | 0, _ => rfl
  | n + 1, x => by simp [bytes, bytes_len n]

/-- The steps of math/bits.OnesCount64. -/
theorem ones (x y1 y2 y3 y4 y5 y6 : Nat) (hx : x < 18446744073709551616) (h1 : (x / 2 &&& 6148914691236517205) + (x &&& 6148914691236517205) = y1)
    (h2 : (y1 / 4 &&& 3689348814741910323) + (y1 &&& 3689348814741910323) = y2) (h3 : (y2 / 16 + y2) &&& 1085102592571150095 = y3)
    (h4 : y3 + y3 / 256 = y4) (h5 : y4 + y4 / 65536 = y5) (h6 : y5 + y5 / 4294967296 = y6) :
    y1 < 18446744073709551616 ∧ y2 / 16 + y2 < 18446744073709551616 ∧ y2 < 18446744073709551616 ∧ y3 < 18446744073709551616 ∧ y4 < 18446744073709551616 ∧ y5 < 18446744073709551616 ∧ y6 < 18446744073709551616 ∧ y6 % 128 = (bitsOf x).length ∧ y6 < 9223372036854775808 := by
  have hl := bytes_len 8 x
  have hb := bytes_lt 8 x
  have hv := val_bytes 8 x (by simpa using hx)
  have hc : (bitsOf x).length = ((bytes 8 x).map fun b => ((List.range 8).filter b.testBit).length).sum := count_bytes 8 x
  generalize hB : bytes 8 x = l at hl hb hv hc
  have e1 : y1 = val (l.map s1) := by
    rw [← step1 l hb, hl, hv, ← h1]; rfl
  have e2 : y2 = val ((l.map s1).map s2) := by
    rw [← step2 (l.map s1) (by
      intro b hb'
      obtain ⟨c, hc', rfl⟩ := List.mem_map.1 hb'
      exact (b3 c (hb c hc')).1), List.length_map, hl, ← e1, ← h2]; rfl
  have e3 : y3 = val (((l.map s1).map s2).map s3) := by
    rw [← step3 ((l.map s1).map s2) (by
      intro b hb'
      obtain ⟨c, hc', rfl⟩ := List.mem_map.1 hb'
      obtain ⟨d, hd, rfl⟩ := List.mem_map.1 hc'
      exact ⟨(b3 d (hb d hd)).2.2.1, (b3 d (hb d hd)).2.2.2.1⟩), List.length_map, List.length_map, hl, ← e2, ← h3]; rfl
  have g1 : ∀ b ∈ l, s1 b < 256 ∧ s2 (s1 b) < 256 ∧ s2 (s1 b) / 16 ≤ 4 ∧ s2 (s1 b) % 16 ≤ 4 ∧ s3 (s2 (s1 b)) = ((List.range 8).filter b.testBit).length := fun b h => b3 b (hb b h)
  have g2 : ∀ b ∈ l, s3 (s2 (s1 b)) ≤ 8 := fun b h => by
    have := (g1 b h).2.2
    unfold s3 at this ⊢
    omega
  have hs : (l.map fun b => s3 (s2 (s1 b))).sum = (bitsOf x).length := by
    rw [hc]
    congr 1
    apply List.map_congr_left
    intro b h
    exact (g1 b h).2.2.2.2
  rw [List.map_map, List.map_map] at e3
  rw [List.map_map] at e2
  obtain ⟨a0, a1, a2, a3, a4, a5, a6, a7, rfl⟩ := eight hl
  simp only [List.map_cons, List.map_nil, List.sum_cons, List.sum_nil, Function.comp] at hs e1 e2 e3
  simp only [List.mem_cons, List.not_mem_nil, or_false, forall_eq_or_imp, forall_eq] at g1 g2
  obtain ⟨k0, k1, k2, k3, k4, k5, k6, k7⟩ := g2
  obtain ⟨j0, j1, j2, j3, j4, j5, j6, j7⟩ := g1
  rw [← hs]
  clear hs hc hv hb hB hl h1 h2 h3 hx
  simp only [val] at e1 e2 e3
  generalize s3 (s2 (s1 a0)) = c0 at *
  generalize s3 (s2 (s1 a1)) = c1 at *
  generalize s3 (s2 (s1 a2)) = c2 at *
  generalize s3 (s2 (s1 a3)) = c3 at *
  generalize s3 (s2 (s1 a4)) = c4 at *
  generalize s3 (s2 (s1 a5)) = c5 at *
  generalize s3 (s2 (s1 a6)) = c6 at *
  generalize s3 (s2 (s1 a7)) = c7 at *
  have q2 : y2 ≤ 4919131752989213764 := by omega
  have q3 : y3 ≤ 578721382704613384 := by omega
  refine ⟨by omega, by omega, by omega, by omega, by omega, by omega, by omega, ?_, by omega⟩
  have r3 : y3 = c0 + 256 * (c1 + 256 * (c2 + 256 * (c3 + 256 * (c4 + 256 * (c5 + 256 * (c6 + 256 * c7)))))) := by omega
  have r4 : y4 = (c0 + c1) + 256 * ((c1 + c2) + 256 * ((c2 + c3) + 256 * ((c3 + c4) + 256 * ((c4 + c5) + 256 * ((c5 + c6) + 256 * ((c6 + c7) + 256 * c7)))))) := by
    have : y3 / 256 = c1 + 256 * (c2 + 256 * (c3 + 256 * (c4 + 256 * (c5 + 256 * (c6 + 256 * c7))))) := by omega
    omega
  clear r3 e1 e2 e3 h4 j0 j1 j2 j3 j4 j5 j6 j7 q2 q3
  have r5 : y5 = (c0 + c1 + (c2 + c3)) + 256 * ((c1 + c2 + (c3 + c4)) + 256 * ((c2 + c3 + (c4 + c5)) + 256 * ((c3 + c4 + (c5 + c6)) + 256 * ((c4 + c5 + (c6 + c7)) + 256 * ((c5 + c6 + c7) + 256 * ((c6 + c7) + 256 * c7)))))) := by
    have : y4 / 65536 = (c2 + c3) + 256 * ((c3 + c4) + 256 * ((c4 + c5) + 256 * ((c5 + c6) + 256 * ((c6 + c7) + 256 * c7)))) := by omega
    omega
  clear r4 h5
  have r6 : y5 / 4294967296 = (c4 + c5 + (c6 + c7)) + 256 * ((c5 + c6 + c7) + 256 * ((c6 + c7) + 256 * c7)) := by omega
  omega
end Go.Proofs.Ytcpmcgbjmncalaa.Words

namespace Go.Proofs.Ytcpmcgbjmncalaa.BitsWalks
open Go.RowKit Go.Proofs.Ytcpmcgbjmncalaa.Ints Go.Proofs.Ytcpmcgbjmncalaa.Words Go.Proofs.Ytcpmcgbjmncalaa.RdW

section
variable (A B : Option Addr) (n c m d : Nat) (xs ys : List Nat) (w : World)

theorem word (i : Nat) (h : RdW w A n xs) :
    Calls Try.prog 68 #[.slice A n c, .int .i64 i] w fun e w' => e = .returned (.int .u64 (wd xs i : Nat)) ∧ w = w' := by
  have hl := h.len
  have hcell := h.cell
  clear h
  by_cases hi : i < n
  · obtain ⟨b, off, rfl, hc⟩ := hcell (by omega)
    have hc1 := hc i hi
    clear hcell hc
    have hi' : (i : Int) < (n : Int) := by omega
    go_enter Try.func68, Try.ntmps68
    go_wp2
    go_ret
    exact ⟨rfl, rfl⟩
  · have hi' : ¬ (i : Int) < (n : Int) := by omega
    have ho : wd xs i = 0 := out_getD (by omega)
    go_enter Try.func68, Try.ntmps68
    go_wp2
    go_ret
    exact ⟨rfl, rfl⟩

/-- Is the number n in the set? -/
def hasI (xs : List Nat) (n : Int) : Bool := decide (0 ≤ n) && has xs n.toNat

theorem has_at_ {xs : List Nat} (hw : Ws xs) (m : Nat) : (bits .and .u64 ((wd xs (m / 64) : Nat) / 2 ^ (m % 64) : Int) 1 == 1) = hasI xs m := by
  have h := bit_one (wd xs (m / 64)) (m % 64) (hw (m / 64))
  rw [h]
  simp [hasI, has, wd]

theorem has_ (k : Int) (hk : k ≤ 9223372036854775807) (h : RdW w A n xs) :
    Calls Try.prog 50 #[.slice A n c, .int .i64 k] w fun e w' => e = .returned (.bool (hasI xs k)) ∧ w = w' := by
  by_cases h0 : k < 0
  · go_enter Try.func50, Try.ntmps50
    go_wp2
    go_ret
    exact ⟨by simp [hasI, show ¬ 0 ≤ k by omega], rfl⟩
  · obtain ⟨m, rfl⟩ := Int.eq_ofNat_of_zero_le (show 0 ≤ k by omega)
    have hv := has_at_ h.ws m
    generalize hasI xs (m : Int) = r at *
    obtain ⟨q, hq⟩ : ∃ q, m / 64 = q := ⟨_, rfl⟩
    obtain ⟨b, hb⟩ : ∃ b, m % 64 = b := ⟨_, rfl⟩
    rw [hq, hb] at hv
    have e1 : (m : Int) / 64 = (q : Int) := by omega
    have e2 : (m : Int) % 64 = (b : Int) := by omega
    have e3 : (b : Int) ≤ 64 := by omega
    clear hq hb
    go_enter Try.func50, Try.ntmps50
    go_wp2_with (go_at_call 68; refine (word _ _ _ _ _ q h).mono ?_; rintro e w' ⟨rfl, rfl⟩)
    go_ret
    exact ⟨rfl, rfl⟩

end
end Go.Proofs.Ytcpmcgbjmncalaa.BitsWalks

namespace Go.Proofs.Ytcpmcgbjmncalaa.Paths
open Go.RowKit Go.Proofs.Ytcpmcgbjmncalaa.Ints Go.Proofs.Ytcpmcgbjmncalaa.Mem Go.Proofs.Ytcpmcgbjmncalaa.Src Go.Proofs.Ytcpmcgbjmncalaa.Tree Go.Proofs.Ytcpmcgbjmncalaa.BitsWalks Go.Proofs.Ytcpmcgbjmncalaa.RdW

def kidN (l : List Nd) (x q : Nat) : Nat := (((l[x]?.map (fun y : Nd => y.kids)).getD [])[q]?.getD 0).toNat
/-- The nodes of a list as a regular expression over points whose sets of tests are vs. -/
def rxOf (l : List Nd) (ts : List Int) (vs : Nat → List Nat) : Rx := ⟨kindN l, fun x => kidN l x 0, fun x => kidN l x 1, fun x i => hasI (vs i) (numT ts (x : Nat))⟩
/-- A slice that reads as sets of words. -/
def RdV (w : World) (V : Option Addr) (n : Nat) (vs : Nat → List Nat) : Prop := 0 < n → ∃ b off, V = some ⟨b, off, none⟩ ∧ ∀ i, i < n → ∃ K q c, w.cell? ⟨b, off + i, none⟩ = some (.slice K q c) ∧ RdW w K q (vs i) ∧ q ≤ c ∧ c ≤ maxLen
/-- What reach is handed. -/
structure RIn (w : World) (A : Option Addr) (n : Nat) (l : List Nd) (T : Option Addr) (nt : Nat) (ts : List Int) (V : Option Addr) (nv : Nat) (vs : Nat → List Nat) : Prop where
  nodes : Nodes Tree.Any w A l
  may : mayL l = true
  len : l.length = n
  small : n ≤ 1048576
  tests : Rd .i64 w T nt ts
  nts : nt ≤ 1048576
  vals : RdV w V nv vs
  nvs : nv ≤ 1000000
/-- What reach hands back. -/
def GotTab (w : World) (nv : Nat) (m : Tb) (e : Ending) (w' : World) : Prop := ∃ B R, e = .returned (.slice (some ⟨B, 0, none⟩) nv nv) ∧ Tab w' w.heap.size B R nv m ∧ Below w.heap.size w w'
end Go.Proofs.Ytcpmcgbjmncalaa.Paths

namespace Go.Proofs.Ytcpmcgbjmncalaa.Paths
open Go.RowKit Go.Proofs.Ytcpmcgbjmncalaa.Ints Go.Proofs.Ytcpmcgbjmncalaa.Mem Go.Proofs.Ytcpmcgbjmncalaa.Src Go.Proofs.Ytcpmcgbjmncalaa.Tree Go.Proofs.Ytcpmcgbjmncalaa.BitsWalks Go.Proofs.Ytcpmcgbjmncalaa.RdW

theorem RdV.below {w w' : World} {V : Option Addr} {n : Nat} {vs : Nat → List Nat} (h : RdV w V n vs) (hb : Below w.heap.size w w') : RdV w' V n vs := fun h0 => by
  obtain ⟨b, off, e, hc⟩ := h h0
  refine ⟨b, off, e, fun i hi => ?_⟩
  obtain ⟨K, q, c, x, hr, hq, hm⟩ := hc i hi
  exact ⟨K, q, c, Mem.below_cell hb x, hr.below hb, hq, hm⟩
end Go.Proofs.Ytcpmcgbjmncalaa.Paths
