/-
  The walks of package bits and of its reference: what only reads: words, which are used, is a number in, within, the same, how many. By an AI agent.
-/
import Derived.Test.YtmmlnfffnfjjnaaDoorRdW
import Derived.Test.YtmmlnfffnfjjnaaDoorPop
import Derived.Test.YtmmlnfffnfjjnaaDoorChecked
import Derived.WalkKit
import Derived.WalkSpells
import Derived.WalkLawsBesides
import Derived.Below
import Derived.Lib.Hide
import Derived.BigQuiet
import Derived.Deep.QuietTactic
namespace Go.Proofs.YtmmlnfffnfjjnaaDoor.BitsWalks
open Go.RowKit Go.Proofs.YtmmlnfffnfjjnaaDoor.Ints Go.Proofs.YtmmlnfffnfjjnaaDoor.Words Go.Proofs.YtmmlnfffnfjjnaaDoor.RdW

section
variable (A B : Option Addr) (n c m d : Nat) (xs ys : List Nat) (w : World)

theorem word (i : Nat) (h : RdW w A n xs) :
    Calls Tryd.prog 31 #[.slice A n c, .int .i64 i] w fun e w' => e = .returned (.int .u64 (wd xs i : Nat)) ∧ w = w' := by
  have hl := h.len
  have hcell := h.cell
  clear h
  by_cases hi : i < n
  · obtain ⟨b, off, rfl, hc⟩ := hcell (by omega)
    have hc1 := hc i hi
    clear hcell hc
    have hi' : (i : Int) < (n : Int) := by omega
    go_enter Tryd.func31, Tryd.ntmps31
    go_wp2
    go_ret
    exact ⟨rfl, rfl⟩
  · have hi' : ¬ (i : Int) < (n : Int) := by omega
    have ho : wd xs i = 0 := out_getD (by omega)
    go_enter Tryd.func31, Tryd.ntmps31
    go_wp2
    go_ret
    exact ⟨rfl, rfl⟩

theorem refWord (i : Nat) (h : RdW w A n xs) :
    Calls Tryd.prog 34 #[.slice A n c, .int .i64 i] w fun e w' => e = .returned (.int .u64 (wd xs i : Nat)) ∧ w = w' := by
  have hl := h.len
  have hcell := h.cell
  clear h
  by_cases hi : i < n
  · obtain ⟨b, off, rfl, hc⟩ := hcell (by omega)
    have hc1 := hc i hi
    clear hcell hc
    have hi' : (i : Int) < (n : Int) := by omega
    go_enter Tryd.func34, Tryd.ntmps34
    go_wp2
    go_ret
    exact ⟨rfl, rfl⟩
  · have hi' : ¬ (i : Int) < (n : Int) := by omega
    have ho : wd xs i = 0 := out_getD (by omega)
    go_enter Tryd.func34, Tryd.ntmps34
    go_wp2
    go_ret
    exact ⟨rfl, rfl⟩

theorem used (hn : n ≤ maxLen) (h : RdW w A n xs) :
    Calls Tryd.prog 35 #[.slice A n c] w fun e w' => ∃ k : Nat, e = .returned (.int .i64 k) ∧ Used xs k ∧ w = w' := by
  unfold maxLen at hn
  have hcell := h.cell
  have HL := Lib.hid h.len
  clear h
  go_enter Tryd.func35, Tryd.ntmps35
  go_wp2
  go_loop [3] (fun i => ∃ k : Nat, k ≤ n ∧ i = .int .i64 k ∧ ∀ j : Nat, k ≤ j → xs[j]?.getD 0 = 0) (fun i => (intOf i).toNat)
  case atStart => exact ⟨n, Nat.le_refl _, rfl, fun j hj => out_getD (by rw [HL.out]; exact hj)⟩
  case round =>
    obtain ⟨k, hk, rfl, hz⟩ := hrel
    have HZ := Lib.hid hz
    clear hz
    by_cases h0 : 0 < k
    · obtain ⟨b, off, rfl, hc⟩ := hcell (by omega)
      obtain ⟨q, rfl⟩ : ∃ q, k = q + 1 := ⟨k - 1, by omega⟩
      have hc1 := hc q (by omega)
      clear hcell hc
      by_cases hx : wd xs q = 0
      · go_wp2
        go_round
        case rel =>
          refine ⟨q, by omega, rfl, fun j hj => ?_⟩
          by_cases e : j = q
          · subst e; exact hx
          · exact HZ.out j (by omega)
        case measure => simp [intOf]
      · go_wp2
        go_ret
        exact ⟨q + 1, rfl, ⟨by rw [HL.out]; exact hk, HZ.out, fun _ => hx⟩, rfl⟩
    · have h1 : k = 0 := by omega
      subst h1
      go_wp2
      go_ret
      exact ⟨0, rfl, ⟨by omega, HZ.out, fun h => absurd h (by omega)⟩, rfl⟩

/-- Is the number n in the set? -/
def hasI (xs : List Nat) (n : Int) : Bool := decide (0 ≤ n) && has xs n.toNat

theorem has_at_ {xs : List Nat} (hw : Ws xs) (m : Nat) : (bits .and .u64 ((wd xs (m / 64) : Nat) / 2 ^ (m % 64) : Int) 1 == 1) = hasI xs m := by
  have h := bit_one (wd xs (m / 64)) (m % 64) (hw (m / 64))
  rw [h]
  simp [hasI, has, wd]

theorem has_ (k : Int) (hk : k ≤ 9223372036854775807) (h : RdW w A n xs) :
    Calls Tryd.prog 12 #[.slice A n c, .int .i64 k] w fun e w' => e = .returned (.bool (hasI xs k)) ∧ w = w' := by
  by_cases h0 : k < 0
  · go_enter Tryd.func12, Tryd.ntmps12
    go_wp2
    go_ret
    exact ⟨by simp [hasI, show ¬ 0 ≤ k by omega], rfl⟩
  · obtain ⟨m, rfl⟩ := Int.eq_ofNat_of_zero_le (show 0 ≤ k by omega)
    have hv := has_at_ h.ws m
    generalize hasI xs (m : Int) = r at *
    obtain ⟨q, hq⟩ : ∃ q, m / 64 = q := ⟨_, rfl⟩
    obtain ⟨b, hb⟩ : ∃ b, m % 64 = b := ⟨_, rfl⟩
    rw [hq, hb] at hv
    have e1 : (m : Int) / 64 = (q : Int) := by omega
    have e2 : (m : Int) % 64 = (b : Int) := by omega
    have e3 : (b : Int) ≤ 64 := by omega
    clear hq hb
    go_enter Tryd.func12, Tryd.ntmps12
    go_wp2_with (go_at_call 31; refine (word _ _ _ _ _ q h).mono ?_; rintro e w' ⟨rfl, rfl⟩)
    go_ret
    exact ⟨rfl, rfl⟩

theorem refHas (k : Int) (hk : k ≤ 9223372036854775807) (hn : n ≤ maxLen) (h : RdW w A n xs) :
    Calls Tryd.prog 13 #[.slice A n c, .int .i64 k] w fun e w' => e = .returned (.bool (hasI xs k)) ∧ w = w' := by
  unfold maxLen at hn
  by_cases h0 : k < 0
  · go_enter Tryd.func13, Tryd.ntmps13
    go_wp2
    go_ret
    exact ⟨by simp [hasI, show ¬ 0 ≤ k by omega], rfl⟩
  · obtain ⟨m, rfl⟩ := Int.eq_ofNat_of_zero_le (show 0 ≤ k by omega)
    have hv := has_at_ h.ws m
    have hout : ¬ m / 64 < n → hasI xs (m : Int) = false := fun hge => by
      simp [hasI, has, out_getD (xs := xs) (j := m / 64) (by rw [h.len]; omega)]
    generalize hasI xs (m : Int) = r at *
    have hcell := h.cell
    obtain ⟨q, hq⟩ : ∃ q, m / 64 = q := ⟨_, rfl⟩
    obtain ⟨b, hb⟩ : ∃ b, m % 64 = b := ⟨_, rfl⟩
    rw [hq, hb] at hv
    rw [hq] at hout
    have e1 : (m : Int) / 64 = (q : Int) := by omega
    have e2 : (m : Int) % 64 = (b : Int) := by omega
    have e3 : (b : Int) ≤ 64 := by omega
    have e4 : IntKind.u64.wrap (b : Int) = (b : Int) := by rw [IntKind.wrap_u64]; omega
    clear hq hb h
    by_cases hqn : q < n
    · obtain ⟨g, off, rfl, hc⟩ := hcell (by omega)
      have hc1 := hc q hqn
      have e5 : (q : Int) < (n : Int) := by omega
      clear hcell hc hout
      go_enter Tryd.func13, Tryd.ntmps13
      go_wp2
      go_ret
      exact ⟨rfl, rfl⟩
    · have e5 : ¬ (q : Int) < (n : Int) := by omega
      have e6 := hout hqn
      subst e6
      clear hcell hout hv
      go_enter Tryd.func13, Tryd.ntmps13
      go_wp2
      go_ret
      exact ⟨rfl, rfl⟩

theorem mayBeIn (k : Int) :
    Calls Tryd.prog 30 #[.int .i64 k] w fun e w' => e = .returned (.bool (decide (0 ≤ k ∧ k ≤ 4095))) ∧ w = w' := by
  go_enter Tryd.func30, Tryd.ntmps30
  by_cases h1 : 0 ≤ k
  · by_cases h2 : k ≤ 4095
    · go_wp2
      go_ret
      exact ⟨by simp [h1, h2], rfl⟩
    · go_wp2
      go_ret
      exact ⟨by simp [h2], rfl⟩
  · go_wp2
    go_ret
    exact ⟨by simp [show ¬ 0 ≤ k by omega], rfl⟩
theorem onesCount (x : Nat) (hx : x < 18446744073709551616) :
    Calls Tryd.prog 33 #[.int .u64 x] w fun e w' => e = .returned (.int .i64 (bitsOf x).length) ∧ w = w' := by
  obtain ⟨y1, h1⟩ : ∃ y, (x / 2 &&& 6148914691236517205) + (x &&& 6148914691236517205) = y := ⟨_, rfl⟩
  obtain ⟨y2, h2⟩ : ∃ y, (y1 / 4 &&& 3689348814741910323) + (y1 &&& 3689348814741910323) = y := ⟨_, rfl⟩
  obtain ⟨y3, h3⟩ : ∃ y, (y2 / 16 + y2) &&& 1085102592571150095 = y := ⟨_, rfl⟩
  obtain ⟨y4, h4⟩ : ∃ y, y3 + y3 / 256 = y := ⟨_, rfl⟩
  obtain ⟨y5, h5⟩ : ∃ y, y4 + y4 / 65536 = y := ⟨_, rfl⟩
  obtain ⟨y6, h6⟩ : ∃ y, y5 + y5 / 4294967296 = y := ⟨_, rfl⟩
  obtain ⟨l1, l23, l2, l3, l4, l5, l6, hr, l7⟩ := ones x y1 y2 y3 y4 y5 y6 hx h1 h2 h3 h4 h5 h6
  have k1 : IntKind.u64.wrap (bits BinOp.and IntKind.u64 ((x : Int) / 2) 6148914691236517205 + bits BinOp.and IntKind.u64 (x : Int) 6148914691236517205) = (y1 : Int) := by
    have a1 := bits_and_u64_nat (x / 2) 6148914691236517205 (by omega) (by omega)
    have a2 := bits_and_u64_nat x 6148914691236517205 hx (by omega)
    rw [show (x : Int) / 2 = ((x / 2 : Nat) : Int) by omega, show (6148914691236517205 : Int) = ((6148914691236517205 : Nat) : Int) from rfl, a1, a2, IntKind.wrap_u64]
    omega
  have k2 : IntKind.u64.wrap (bits BinOp.and IntKind.u64 ((y1 : Int) / 4) 3689348814741910323 + bits BinOp.and IntKind.u64 (y1 : Int) 3689348814741910323) = (y2 : Int) := by
    have a1 := bits_and_u64_nat (y1 / 4) 3689348814741910323 (by omega) (by omega)
    have a2 := bits_and_u64_nat y1 3689348814741910323 l1 (by omega)
    rw [show (y1 : Int) / 4 = ((y1 / 4 : Nat) : Int) by omega, show (3689348814741910323 : Int) = ((3689348814741910323 : Nat) : Int) from rfl, a1, a2, IntKind.wrap_u64]
    omega
  have k3 : bits BinOp.and IntKind.u64 (IntKind.u64.wrap ((y2 : Int) / 16 + (y2 : Int))) 1085102592571150095 = (y3 : Int) := by
    have a1 := bits_and_u64_nat (y2 / 16 + y2) 1085102592571150095 l23 (by omega)
    rw [IntKind.wrap_u64, show ((y2 : Int) / 16 + (y2 : Int)) % 18446744073709551616 = ((y2 / 16 + y2 : Nat) : Int) by omega, show (1085102592571150095 : Int) = ((1085102592571150095 : Nat) : Int) from rfl, a1]
    omega
  have k4 : IntKind.u64.wrap ((y3 : Int) + (y3 : Int) / 256) = (y4 : Int) := by rw [IntKind.wrap_u64]; omega
  have k5 : IntKind.u64.wrap ((y4 : Int) + (y4 : Int) / 65536) = (y5 : Int) := by rw [IntKind.wrap_u64]; omega
  have k6 : IntKind.u64.wrap ((y5 : Int) + (y5 : Int) / 4294967296) = (y6 : Int) := by rw [IntKind.wrap_u64]; omega
  have k7 : wrap64 (y6 : Int) = (y6 : Int) := wrap64_nat _ l7
  have k8 := and_127 y6 l7
  rw [hr] at k8
  clear h1 h2 h3 h4 h5 h6 l1 l23 l2 l3 l4 l5 l6 hr l7 hx
  go_enter Tryd.func33, Tryd.ntmps33
  go_wp2
  go_ret
  exact ⟨rfl, rfl⟩
end
end Go.Proofs.YtmmlnfffnfjjnaaDoor.BitsWalks
