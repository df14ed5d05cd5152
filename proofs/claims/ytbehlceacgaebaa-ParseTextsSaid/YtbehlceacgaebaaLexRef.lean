/-
  The walk of the reference's sign. By an AI agent.
-/
import Derived.Test.YtbehlceacgaebaaLexBase
import Derived.Test.YtbehlceacgaebaaLexN
namespace Go.Proofs.Ytbehlceacgaebaa.Lex
open Go.RowKit

set_option maxHeartbeats 1000000 in
theorem refSign (c : UInt8) (w : World) :
    Calls Try.prog 29 #[.int .u8 (c.toNat : Int)] w fun e w' => e = .returned (.bool (isSign c)) ∧ w' = w := by
  go_enter Try.func29, Try.ntmps29
  go_wp2
  go_loop [4] (fun i => ∃ k : Nat, k ≤ 15 ∧ i = .int .i64 k ∧ Hid (∀ j, j < k → signs.getD j 0 ≠ c.toNat)) (fun i => 15 - (intOf i).toNat)
  case atStart => exact ⟨0, by omega, rfl, fun j hj => by omega⟩
  case round =>
    obtain ⟨k, hk, rfl, HN⟩ := hrel
    by_cases hlt : k < 15
    · have hlt' : (k : Int) < 15 := by omega
      have hc := sign_at k hlt
      have HS := Lib.hid (sign_step c k hlt)
      obtain ⟨x, hx⟩ : ∃ x, signs.getD k 0 = x := ⟨_, rfl⟩
      have HX := Lib.hid hx
      rw [hx] at hc
      clear hx
      by_cases he : x = c.toNat
      · subst he
        have HE := Lib.hid (HS.out HX.out)
        clear HS HX
        go_wp2
        go_ret
        exact ⟨by rw [HE.out]; rfl, rfl⟩
      · have he' : ((x : Int) == (c.toNat : Int)) = false := by simp only [beq_eq_false_iff_ne]; omega
        have HE := Lib.hid (show ∀ j, j < k + 1 → signs.getD j 0 ≠ c.toNat from fun j hj => by
          by_cases hjk : j = k
          · rw [hjk, HX.out]; exact he
          · exact HN.out j (by omega))
        clear HS HX he
        go_wp2
        go_round
        case rel => exact ⟨k + 1, by omega, by go_num, HE⟩
        case measure => simp [intOf]; omega
    · have HE := Lib.hid (sign_none c (fun j hj => HN.out j (by omega)))
      have hge : decide ((k : Int) < 15) = false := by simp; omega
      go_wp2
      go_ret
      exact ⟨by rw [HE.out]; rfl, rfl⟩
end Go.Proofs.Ytbehlceacgaebaa.Lex
