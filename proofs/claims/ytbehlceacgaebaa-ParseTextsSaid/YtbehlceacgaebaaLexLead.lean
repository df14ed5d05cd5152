/-
  The walks of the landed lex's isBlank, isLetter, isDigit, inWord and lead. By an AI agent.
-/
import Derived.Test.YtbehlceacgaebaaLexBase
import Derived.Test.YtbehlceacgaebaaLexNameLand
namespace Go.Proofs.Ytbehlceacgaebaa.Lex
open Go.RowKit

theorem landBlank (c : UInt8) (w : World) :
    Calls Try.prog 37 #[.int .u8 (c.toNat : Int)] w fun e w' => e = .returned (.bool (blank c)) ∧ w' = w := by
  have h : blank c = (decide ((c.toNat : Int) = 32) || decide ((c.toNat : Int) = 10)) := by
    unfold blank
    rw [← Bool.decide_or]
    exact decide_eq_decide.2 (by omega)
  rw [h]
  obtain ⟨x, hx⟩ : ∃ x : Int, (c.toNat : Int) = x := ⟨_, rfl⟩
  rw [hx]
  clear h hx
  by_cases h1 : x = 32
  all_goals
    go_enter Try.func37, Try.ntmps37
    go_wp2
    go_ret
    exact ⟨by first | rfl | (simp [h1]; done) | (simp [h1]; rfl), rfl⟩
end Go.Proofs.Ytbehlceacgaebaa.Lex
