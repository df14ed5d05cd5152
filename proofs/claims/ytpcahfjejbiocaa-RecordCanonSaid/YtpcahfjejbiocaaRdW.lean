/-
  Slices of words as a walk needs them: a slice that reads as a list of natural numbers below 2^64; the bits of two words. By an AI agent.
-/
import Derived.Test.YtpcahfjejbiocaaInts
import Derived.Test.YtpcahfjejbiocaaWords
import Derived.Laws.Bits64b
import Derived.Laws.BitsLemmas
import Derived.IntWalk
namespace Go.Proofs.Ytpcahfjejbiocaa.RdW
open Go.RowKit Go.Proofs.Ytpcahfjejbiocaa.Ints Go.Proofs.Ytpcahfjejbiocaa.Words

/-- Natural numbers as the model's. -/
def ints (xs : List Nat) : List Int := xs.map Int.ofNat
theorem ints_at (xs : List Nat) (j : Nat) : (ints xs)[j]?.getD 0 = ((xs[j]?.getD 0 : Nat) : Int) := by
  unfold ints
  rw [List.getElem?_map]
  cases xs[j]? <;> rfl
theorem ints_len (xs : List Nat) : (ints xs).length = xs.length := by simp [ints]
theorem ints_take (xs : List Nat) (n : Nat) : (ints xs).take n = ints (xs.take n) := by simp [ints, List.map_take]
theorem ints_append (xs ys : List Nat) : ints (xs ++ ys) = ints xs ++ ints ys := by simp [ints]
theorem ints_set (xs : List Nat) (j x : Nat) : (ints xs).set j (x : Int) = ints (xs.set j x) := by simp [ints, List.map_set]
theorem ints_replicate (n : Nat) : List.replicate n (0 : Int) = ints (List.replicate n 0) := by simp [ints]
theorem ints_inj {xs ys : List Nat} (h : ints xs = ints ys) : xs = ys := by
  unfold ints at h
  exact List.map_inj_right (fun _ _ e => Int.ofNat.inj e) |>.1 h
theorem word_wf {x : Nat} (h : x < 18446744073709551616) : (Lit.int .u64 (x : Int)).wf = true := by
  simp [Lit.wf, IntKind.min, IntKind.max, IntKind.signed, IntKind.bits]
  omega
theorem ints_wf {xs : List Nat} (h : Ws xs) : ∀ z ∈ ints xs, (Lit.int .u64 z).wf = true := by
  intro z hz
  obtain ⟨x, hx, rfl⟩ := List.mem_map.1 hz
  obtain ⟨j, hj, rfl⟩ := List.getElem_of_mem hx
  have := h j
  rw [List.getElem?_eq_getElem hj] at this
  exact word_wf this

/-- The slice of address A and length n reads as the words xs. -/
def RdW (w : World) (A : Option Addr) (n : Nat) (xs : List Nat) : Prop := Rd .u64 w A n (ints xs)

section
variable {w w' : World} {A : Option Addr} {n : Nat} {xs : List Nat}
theorem RdW.len (h : RdW w A n xs) : xs.length = n := by rw [← ints_len]; exact Rd.len h
theorem RdW.ws (h : RdW w A n xs) : Ws xs := fun j => by
  by_cases hj : j < n
  · have := Rd.u64 h j hj
    rw [ints_at] at this
    omega
  · rw [out_getD (by rw [h.len]; omega)]; omega
theorem RdW.cell (h : RdW w A n xs) : 0 < n → ∃ b off, A = some ⟨b, off, none⟩ ∧ ∀ j, j < n → w.cell? ⟨b, off + j, none⟩ = some (.int .u64 ((wd xs j : Nat) : Int)) := fun h0 => by
  obtain ⟨b, off, e, hc⟩ := Rd.cell h h0
  exact ⟨b, off, e, fun j hj => by rw [hc j hj, ints_at]; rfl⟩
theorem RdW.below (h : RdW w A n xs) (hb : Below w.heap.size w w') : RdW w' A n xs := Rd.below h hb
theorem RdW.take (h : RdW w A n xs) {m : Nat} (hm : m ≤ n) : RdW w A m (xs.take m) := by
  have := Rd.take h hm
  rwa [ints_take] at this
theorem RdW.drewN (h : RdW w A n xs) (q : Nat) : RdW (w.drewN q) A n xs := Rd.drewN h q
theorem RdW.drew (h : RdW w A n xs) : RdW w.drew A n xs := h
theorem RdW.own {base c : Nat} {e : TypeId} (h : w.ownsRow base e 1 (.slice A n c) n ((ints xs).map (Value.int .u64))) (hz : Ws xs) : RdW w A n xs := Rd.own h (ints_wf hz)
theorem rdW_of {zs : List Int} (h : Rd .u64 w A n zs) : ∃ xs, RdW w A n xs := by
  refine ⟨zs.map Int.toNat, ?_⟩
  have e : ints (zs.map Int.toNat) = zs := by
    unfold ints
    rw [List.map_map]
    conv => rhs; rw [← List.map_id zs]
    apply List.map_congr_left
    intro z hz
    have := wf_u64 (h.all z hz)
    exact Int.toNat_of_nonneg this.1
  unfold RdW
  rwa [e]
theorem RdW.nil (w : World) (A : Option Addr) : RdW w A 0 [] := Rd.nil _ _ _
end

/-! ### bits of words -/
theorem bits_andNot_u64 (a b : Nat) (ha : a < 18446744073709551616) (hb : b < 18446744073709551616) : bits .andNot .u64 (a : Int) (b : Int) = ((anot a b : Nat) : Int) := by
  have hx : anot a b < 18446744073709551616 := anot_lt ha
  have h1 : (BitVec.ofInt 64 (a : Int)).toNat = a := by
    rw [BitVec.ofInt_natCast, BitVec.toNat_ofNat]; exact Nat.mod_eq_of_lt (by omega)
  have h2 : (BitVec.ofInt 64 (b : Int)).toNat = b := by
    rw [BitVec.ofInt_natCast, BitVec.toNat_ofNat]; exact Nat.mod_eq_of_lt (by omega)
  have h3 : (BitVec.ofInt 64 (a : Int) &&& ~~~ BitVec.ofInt 64 (b : Int)).toNat = anot a b := by
    apply Nat.eq_of_testBit_eq
    intro i
    rw [BitVec.testBit_toNat, anot_bit]
    by_cases hi : i < 64
    · rw [BitVec.getLsbD_and, BitVec.getLsbD_not, ← BitVec.testBit_toNat, ← BitVec.testBit_toNat, h1, h2]
      simp [hi]
    · rw [bit_high ha (by omega), BitVec.getLsbD_of_ge _ _ (by omega)]; rfl
  show IntKind.u64.wrap ((BitVec.ofInt 64 (a : Int) &&& ~~~ BitVec.ofInt 64 (b : Int)).toNat : Int) = _
  rw [h3, IntKind.wrap_u64]
  omega
theorem shr_nat (x r : Nat) : (x : Int) / 2 ^ r = ((x / 2 ^ r : Nat) : Int) := by
  rw [Int.natCast_ediv, Int.natCast_pow]; rfl
/-- 'x >> r & 1 == 1' -/
theorem bit_one (x r : Nat) (hx : x < 18446744073709551616) : (bits .and .u64 ((x : Int) / 2 ^ r) 1 == 1) = x.testBit r := by
  have h := bits_and_u64_nat (x / 2 ^ r) 1 (Nat.lt_of_le_of_lt (Nat.div_le_self _ _) hx) (by omega)
  rw [shr_nat, show (1 : Int) = ((1 : Nat) : Int) from rfl, h, Nat.and_one_is_mod, Nat.testBit_eq_decide_div_mod_eq, Bool.eq_iff_iff, beq_iff_eq, decide_eq_true_iff]
  omega
/-- 'x & 127' of an int -/
theorem and_127 (x : Nat) (hx : x < 9223372036854775808) : bits .and .i64 (x : Int) 127 = ((x % 128 : Nat) : Int) := by
  have h := bits_mask .i64 63 (by decide) (fun n h0 h1 => by rw [IntKind.wrap_i64]; omega) 7 (by decide) (x : Int) (by omega) (by omega)
  have e : (2 : Int) ^ 7 - 1 = 127 := by decide
  have e2 : (2 : Int) ^ 7 = 128 := by decide
  rw [e, e2] at h
  rw [h]
  omega
theorem wrap64_nat (x : Nat) (h : x < 9223372036854775808) : wrap64 (x : Int) = (x : Int) := IntWalk.wrap64_in _ (by omega)
end Go.Proofs.Ytpcahfjejbiocaa.RdW
