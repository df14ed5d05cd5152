/-
  The walks of package sum and of its reference: what each call returns, by the plain arithmetic. By an AI agent.
-/
import Derived.Test.YtpcahfjejbiocaaSumMath
import Derived.Test.YtpcahfjejbiocaaInts
import Derived.Test.YtpcahfjejbiocaaChecked
import Derived.WalkKit
import Derived.WalkSpells
import Derived.WalkLawsBesides
import Derived.Below
import Derived.Lib.Hide
namespace Go.Proofs.Ytpcahfjejbiocaa.SumWalks
open Go.RowKit Go.Proofs.Ytpcahfjejbiocaa.SumMath Go.Proofs.Ytpcahfjejbiocaa.Ints

set_option maxHeartbeats 400000 in
theorem refMore (s : Int) (A : Option Addr) (n c : Nat) (zs : List Int) (w : World) (hs0 : 0 ≤ s) (hs : s ≤ 4294967295) (hn : n ≤ maxLen) (h : Rd .u8 w A n zs) :
    Calls Try.prog 33 #[.int .u32 s, .slice A n c] w fun e w' => e = .returned (.int .u32 (adn s zs)) ∧ w = w' := by
  unfold maxLen at hn
  have hl := h.len
  have hbd := h.u8
  have hcell := h.cell
  clear h
  obtain ⟨h1, h2, h3, h4⟩ := start_bd s
  have HL := Lib.hid hl
  clear hl
  go_enter Try.func33, Try.ntmps33
  go_wp2
  go_loop [5, 6, 16] (fun a c i => ∃ k : Nat, k ≤ n ∧ i = .int .i64 k ∧ a = .int .u32 (adl (s % 65536 % 65521) (zs.take k)) ∧ c = .int .u32 (adh (s % 65536 % 65521) (s / 65536 % 65521) (zs.take k))) (fun _ _ i => n - (intOf i).toNat)
  case atStart => exact ⟨0, Nat.zero_le _, rfl, rfl, rfl⟩
  case round =>
    obtain ⟨k, hk, rfl, rfl, rfl⟩ := hrel
    by_cases hlt : k < n
    · obtain ⟨b, off, rfl, hc⟩ := hcell (by omega)
      have hc1 := hc k hlt
      have hb1 := hbd k hlt
      clear hcell hbd hc
      have hAd := adl_bd (zs.take k) _ h1 h2
      have hCd := adh_bd (zs.take k) (s % 65536 % 65521) _ h3 h4
      have HS := Lib.hid (take_snoc zs k (by rw [HL.out]; exact hlt))
      go_wp2
      go_round
      case rel => exact ⟨k + 1, by omega, by go_num, by rw [HS.out, adl_snoc], by rw [HS.out, adh_snoc]⟩
      case measure => simp [intOf]; omega
    · have hAd := adl_bd (zs.take k) _ h1 h2
      have hCd := adh_bd (zs.take k) (s % 65536 % 65521) _ h3 h4
      go_wp2
      go_ret
      exact ⟨ret_int (by rw [List.take_of_length_le (by rw [HL.out]; omega)]; rfl), rfl⟩

set_option maxHeartbeats 400000 in
set_option maxRecDepth 100000 in
theorem sumMore (s : Int) (A : Option Addr) (n c : Nat) (zs : List Int) (w : World) (hs0 : 0 ≤ s) (hs : s ≤ 4294967295) (hn : n ≤ c) (hc : c ≤ maxLen) (h : Rd .u8 w A n zs) :
    Calls Try.prog 36 #[.int .u32 s, .slice A n c] w fun e w' => e = .returned (.int .u32 (adn s zs)) ∧ w = w' := by
  unfold maxLen at hc
  have hl := h.len
  have hbd := h.u8
  have hcell := h.cell
  clear h
  obtain ⟨h1, h2, h3, h4⟩ := start_bd s
  have HL := Lib.hid hl
  clear hl
  go_enter Try.func36, Try.ntmps36
  go_wp2
  go_loop [1, 5, 6] (fun v a h => ∃ (j : Nat) (A' : Option Addr), j ≤ n ∧ v = .slice A' (n - j) (c - j) ∧ (j < n → ∃ b off, A' = some ⟨b, off, none⟩ ∧ ∀ k, k < n - j → w.cell? ⟨b, off + k, none⟩ = some (.int .u8 (zs[j + k]?.getD 0))) ∧
      a = .int .u32 (adl (s % 65536 % 65521) (zs.take j)) ∧ h = .int .u32 (adh (s % 65536 % 65521) (s / 65536 % 65521) (zs.take j))) (fun v _ _ => match v with | .slice _ l _ => l | _ => 0)
  case atStart => exact ⟨0, A, Nat.zero_le _, rfl, by simpa using hcell, rfl, rfl⟩
  case round =>
    obtain ⟨j, A', hj, rfl, hA, rfl, rfl⟩ := hrel
    clear hcell
    by_cases hlt : j < n
    · obtain ⟨b, off, rfl, hcell⟩ := hA hlt
      clear hA
      have hp : (0 : Int) < ((n - j : Nat) : Int) := by omega
      have hin := inn_start _ _ (zs.take j) h1 h2 h3 h4
      have hz : zs.length = n := HL.out
      obtain ⟨m, hm1, hm2, hm3, hm4, hm5⟩ : ∃ m : Nat, m ≤ n - j ∧ m ≤ 5552 ∧ (n - j ≤ 5552 → n - j ≤ m) ∧ (¬ n - j ≤ 5552 → 5552 ≤ m) ∧ 0 < m := by
        by_cases h5 : n - j ≤ 5552
        · exact ⟨n - j, by omega, by omega, by omega, by omega, by omega⟩
        · exact ⟨5552, by omega, by omega, by omega, by omega, by omega⟩
      by_cases h5 : n - j ≤ 5552
      all_goals
        have h5' : (((n - j : Nat) : Int) ≤ 5552) = (n - j ≤ 5552) := by apply propext; omega
        clear h5'
        go_wp2
        go_loop [5, 6, 26] (fun a h i => ∃ (k : Nat) (av hv : Int), k ≤ m ∧ i = .int .i64 k ∧ a = .int .u32 av ∧ h = .int .u32 hv ∧ Inn (s % 65536 % 65521) (s / 65536 % 65521) k (zs.take (j + k)) av hv) (fun _ _ i => m - (intOf i).toNat)
        case atStart => exact ⟨0, _, _, Nat.zero_le _, rfl, rfl, rfl, hin⟩
        case round =>
          obtain ⟨k, av, hv, hk, rfl, rfl, rfl, hi⟩ := hrel
          clear hin
          by_cases hkm : k < m
          · have hc1 := hcell k (by omega)
            have hb1 := hbd (j + k) (by omega)
            have hsm := inn_small hi (by omega) hb1
            have HI := Lib.hid (inn_step hi hb1)
            have HS := Lib.hid (take_snoc zs (j + k) (by omega))
            clear hcell hbd hz hi
            go_wp2
            go_round
            case rel => exact ⟨k + 1, _, _, by omega, by go_num, rfl, rfl, by rw [← Nat.add_assoc, HS.out]; exact HI.out⟩
            case measure => simp [intOf]; omega
          · have hkm' : k = m := by omega
            subst hkm'
            have hsm := inn_now hi (by omega)
            have HI := Lib.hid hi
            clear hi hbd hz
            go_wp2
            go_round
            case rel =>
              have hv1 := HI.out.2.2.2.2.1
              have hv2 := HI.out.2.2.2.2.2
              first
                | (have hkn : n - j = k := by omega
                   exact ⟨j + k, _, by omega, slice_eq rfl (by omega) (by omega), fun h => absurd h (by omega), int_eq hv1, int_eq hv2⟩)
                | (have hkn : 5552 = k := by omega
                   exact ⟨j + k, _, by omega, slice_eq rfl (by omega) (by omega), fun h => ⟨_, _, rfl, fun i hi => by
                     have := hcell (5552 + i) (by omega)
                     rw [← Nat.add_assoc] at this
                     rw [this, ← hkn, Nat.add_assoc]⟩, int_eq hv1, int_eq hv2⟩)
            case measure => show _ < n - j; first | (show n - j - 5552 < n - j; omega) | (show 0 < n - j; omega)
    · have hjn : j = n := by omega
      have HJ := Lib.hid hjn
      clear hjn
      go_wp2
      go_ret
      exact ⟨ret_int (by rw [HJ.out, List.take_of_length_le (by rw [HL.out]; omega)]; have := adn_bd s zs; unfold adn at *; omega), rfl⟩
