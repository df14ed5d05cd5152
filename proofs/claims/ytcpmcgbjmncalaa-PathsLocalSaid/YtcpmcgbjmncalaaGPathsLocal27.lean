/-
  The walks of package bits and of its reference: within, the same, how many, how many words are wanted; two lists of words, two lists of numbers. By an AI agent.
  The walks of package bits: what makes a set: Or. By an AI agent.
  The walks of the reference: what makes a set: Trim, Or, And, Less. By an AI agent.
  The walks of Of, the program's and the reference's. By an AI agent.
-/
import Derived.Test.YtcpmcgbjmncalaaGPathsLocal7
import Derived.OwnWalk
import Derived.Lib.MinMax
import Derived.RegionTactic
import Derived.BigRegion
import Derived.Laws.CopyOwn
namespace Go.Proofs.Ytcpmcgbjmncalaa.BitsWalks
open Go.RowKit Go.Proofs.Ytcpmcgbjmncalaa.Ints Go.Proofs.Ytcpmcgbjmncalaa.Words Go.Proofs.Ytcpmcgbjmncalaa.RdW

/-- Is each number of the first in the second? -/
def within (xs ys : List Nat) : Bool := decide (∀ j, j < xs.length → anot (wd xs j) (wd ys j) = 0)
section
variable (A B : Option Addr) (n c m d : Nat) (xs ys : List Nat) (zs us : List Int) (w : World)

/-- Are the two sets one? -/
def same (xs ys : List Nat) : Bool := within xs ys && within ys xs
theorem int_ext {zs us : List Int} (hl : zs.length = us.length) (h : ∀ j : Nat, j < zs.length → zs[j]?.getD 0 = us[j]?.getD 0) : zs = us := by
  apply List.ext_getElem hl
  intro j h1 h2
  have := h j h1
  rwa [List.getElem?_eq_getElem h1, List.getElem?_eq_getElem h2, Option.getD_some, Option.getD_some] at this
theorem equalInts (hn : n ≤ maxLen) (h : Rd .i64 w A n zs) (h' : Rd .i64 w B m us) :
    Calls Try.prog 10 #[.slice A n c, .slice B m d] w fun e w' => e = .returned (.bool (decide (zs = us))) ∧ ∃ q, w' = w.drewN q := by
  unfold maxLen at hn
  have hcell := h.cell
  have hcell' := h'.cell
  have HL := Lib.hid h.len
  have HL' := Lib.hid h'.len
  clear h h'
  by_cases hnm : n = m
  · subst hnm
    go_enter Try.func10, Try.ntmps10
    go_wp2
    go_loopw [13] (fun i wr => ∃ k q : Nat, k ≤ n ∧ i = .int .i64 k ∧ (∀ j : Nat, j < k → zs[j]?.getD 0 = us[j]?.getD 0) ∧ wr = w.drewN q) (fun i _ => n - (intOf i).toNat)
    case atStart => exact ⟨0, 0, Nat.zero_le _, rfl, fun j hj => absurd hj (by omega), rfl⟩
    case round =>
      obtain ⟨k, q, hk, rfl, hz, rfl⟩ := hrel
      have HZ := Lib.hid hz
      clear hz
      by_cases h0 : k < n
      · obtain ⟨b, off, rfl, hc⟩ := hcell (by omega)
        obtain ⟨b', off', rfl, hc'⟩ := hcell' (by omega)
        have hc1 := hc k h0
        have hc2 := hc' k h0
        have hk0 : (k : Int) < (n : Int) := by omega
        clear hcell hcell' hc hc'
        by_cases hx : zs[k]?.getD 0 = us[k]?.getD 0
        · have HX := Lib.hid hx
          rw [← hx] at hc2
          clear hx
          go_wp2
          go_quiet (fail)
          go_wp2
          go_roundw
          case rel =>
            refine ⟨k + 1, _, by omega, by go_num, fun j hj => ?_, rfl⟩
            by_cases e : j = k
            · subst e; exact HX.out
            · exact HZ.out j (by omega)
          case measure => simp [intOf]; omega
        · have hx' : ¬ zs[k]?.getD 0 = us[k]?.getD 0 := hx
          go_wp2
          go_quiet (fail)
          go_wp2
          go_ret
          refine ⟨?_, _, World.drewN_drewN _ _ _⟩
          have : decide (zs = us) = false := by
            rw [decide_eq_false_iff_not]
            intro e
            exact hx (by rw [e])
          rw [this]; rfl
      · have h1 : ¬ (k : Int) < (n : Int) := by omega
        go_wp2
        go_ret
        refine ⟨?_, _, rfl⟩
        have : decide (zs = us) = true := by
          rw [decide_eq_true_iff]
          exact int_ext (by rw [HL.out, HL'.out]) (fun j hj => HZ.out j (by rw [HL.out] at hj; omega))
        rw [this]; rfl
  · have h1 : ¬ ((n : Int) = (m : Int)) := by omega
    go_enter Try.func10, Try.ntmps10
    go_wp2
    go_ret
    refine ⟨?_, 0, rfl⟩
    have : decide (zs = us) = false := by
      rw [decide_eq_false_iff_not]
      intro e
      subst e
      have e1 := HL.out
      have e2 := HL'.out
      omega
    rw [this]; rfl
end
end Go.Proofs.Ytcpmcgbjmncalaa.BitsWalks

namespace Go.Proofs.Ytcpmcgbjmncalaa.BitsWalks
open Go.RowKit Go.Proofs.Ytcpmcgbjmncalaa.Ints Go.Proofs.Ytcpmcgbjmncalaa.Words Go.Proofs.Ytcpmcgbjmncalaa.RdW

/-- The call hands back a set of its own or a part of it: what is in it, f says; at most L words; nothing that was there has changed. -/
def GotSet (w : World) (L : Nat) (f : Nat → Bool) (e : Ending) (w' : World) : Prop :=
  ∃ (A : Option Addr) (n c : Nat) (zs : List Nat), e = .returned (.slice A n c) ∧ IsSet zs f ∧ RdW w' A n zs ∧ n ≤ c ∧ c ≤ maxLen ∧ n ≤ L ∧ Below w.heap.size w w'

/-- A row of words of the call's own. -/
abbrev Row (w : World) (base g K c : Nat) (xs : List Nat) : Prop := w.ownsRow base 62 1 (.slice (some ⟨g, 0, none⟩) K c) K ((ints xs).map (Value.int .u64))
section
variable {w : World}
theorem Row.reads {base g K c : Nat} {xs : List Nat} (h : Row w base g K c xs) (hw : Ws xs) : RdW w (some ⟨g, 0, none⟩) K xs := RdW.own h hw
theorem Row.set {base g K c : Nat} {xs : List Nat} (h : Row w base g K c xs) (j x : Nat) : Row (w.setCell ⟨g, j, none⟩ (.int .u64 x)) base g K c (xs.set j x) := by
  have := own_set h j (x : Int)
  rwa [ints_set] at this
theorem Row.cell {base g K c : Nat} {xs : List Nat} (h : Row w base g K c xs) {j : Nat} (hj : j < K) : w.cell? ⟨g, j, none⟩ = some (.int .u64 (wd xs j : Nat)) := by
  rw [own_cell h hj, ints_at]; rfl
theorem Row.caps {base g K c : Nat} {xs : List Nat} (h : Row w base g K c xs) : K ≤ c ∧ c ≤ maxLen := by
  obtain ⟨A, c', e, h1, h2, _⟩ := own_slice h
  injection e with _ _ e
  subst e
  exact ⟨h1, h2⟩
/-- A part of the row, up to n, as a set that is handed back. -/
theorem GotSet.row {w0 : World} {base g K c n L : Nat} {xs : List Nat} {f : Nat → Bool} (h : Row w base g K c xs) (hw : Ws xs) (hn : n ≤ K) (hL : n ≤ L) (hs : IsSet (xs.take n) f) (hb : Below w0.heap.size w0 w) :
    GotSet w0 L f (.returned (.slice (some ⟨g, 0, none⟩) n c)) w :=
  ⟨_, n, c, _, rfl, hs, (h.reads hw).take hn, Nat.le_trans hn h.caps.1, h.caps.2, hL, hb⟩
theorem GotSet.all {w0 : World} {base g K c L : Nat} {xs : List Nat} {f : Nat → Bool} (h : Row w base g K c xs) (hL : K ≤ L) (hs : IsSet xs f) (hb : Below w0.heap.size w0 w) :
    GotSet w0 L f (.returned (.slice (some ⟨g, 0, none⟩) K c)) w :=
  ⟨_, K, c, _, rfl, hs, h.reads hs.1, h.caps.1, h.caps.2, hL, hb⟩
end

section
variable (A B : Option Addr) (n c m d : Nat) (xs ys : List Nat) (w : World)

end
end Go.Proofs.Ytcpmcgbjmncalaa.BitsWalks

namespace Go.Proofs.Ytcpmcgbjmncalaa.BitsWalks
open Go.RowKit Go.Proofs.Ytcpmcgbjmncalaa.Ints Go.Proofs.Ytcpmcgbjmncalaa.Words Go.Proofs.Ytcpmcgbjmncalaa.RdW

theorem GotSet.own {w w1 : World} {L k base : Nat} {f : Nat → Bool} {v : Value} {zs : List Nat} (h : w1.ownsRow base 62 1 v k ((ints zs).map (Value.int .u64))) (hs : IsSet zs f) (hL : k ≤ L) (hb : Below w.heap.size w w1) : GotSet w L f (.returned v) w1 := by
  obtain ⟨A, c, rfl, h1, h2, _⟩ := own_slice h
  exact ⟨A, k, c, zs, rfl, hs, RdW.own h hs.1, h1, h2, hL, hb⟩

section
variable (A B : Option Addr) (n c m d : Nat) (xs ys : List Nat) (w : World)

end
end Go.Proofs.Ytcpmcgbjmncalaa.BitsWalks

namespace Go.Proofs.Ytcpmcgbjmncalaa.BitsWalks
open Go.RowKit Go.Proofs.Ytcpmcgbjmncalaa.Ints Go.Proofs.Ytcpmcgbjmncalaa.Words Go.Proofs.Ytcpmcgbjmncalaa.RdW

/-- May z be in a set? -/
def may (z : Int) : Prop := 0 ≤ z ∧ z ≤ 4095
instance (z : Int) : Decidable (may z) := by unfold may; exact inferInstance
/-- One number more. -/
def put (L : List Nat) (z : Int) : List Nat := if may z then L.set (z.toNat / 64) (wd L (z.toNat / 64) ||| 2 ^ (z.toNat % 64)) else L
theorem pow_lt {b : Nat} (h : b < 64) : 2 ^ b < 18446744073709551616 := Nat.pow_lt_pow_right (a := 2) (m := b) (n := 64) (by omega) h
theorem or_bit (x b : Nat) (hx : x < 18446744073709551616) (hb : b < 64) : bits .or .u64 (x : Int) (IntKind.u64.wrap ((2 : Int) ^ b)) = ((x ||| 2 ^ b : Nat) : Int) := by
  have h1 := pow_lt hb
  have h0 := Nat.two_pow_pos b
  have e1 : (2 : Int) ^ b = ((2 ^ b : Nat) : Int) := by rw [Int.natCast_pow]; rfl
  have e2 : IntKind.u64.wrap ((2 : Int) ^ b) = ((2 ^ b : Nat) : Int) := by
    rw [e1, IntKind.wrap_u64]
    omega
  rw [e2, bits_or_u64_nat x (2 ^ b) hx h1]
section
variable (A : Option Addr) (n c : Nat) (zs : List Int) (w : World)

end
end Go.Proofs.Ytcpmcgbjmncalaa.BitsWalks
