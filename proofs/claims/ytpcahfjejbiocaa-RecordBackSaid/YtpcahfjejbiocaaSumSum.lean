/-
  The walks of Sum, landed and by the reference. By an AI agent.
-/
import Derived.Test.YtpcahfjejbiocaaSumWalks
import Derived.Lib.SlBytesConst
namespace Go.Proofs.Ytpcahfjejbiocaa.SumWalks
open Go.RowKit Go.Proofs.Ytpcahfjejbiocaa.SumMath Go.Proofs.Ytpcahfjejbiocaa.Ints

theorem sumSum (A : Option Addr) (n c : Nat) (zs : List Int) (w : World) (hn : n ≤ c) (hc : c ≤ maxLen) (h : Rd .u8 w A n zs) :
    Calls Try.prog 30 #[.slice A n c] w fun e w' => e = .returned (.int .u32 (adn 1 zs)) ∧ w = w' := by
  go_enter Try.func30, Try.ntmps30
  go_wp2_with (go_at_call 36; refine (sumMore 1 _ n c zs _ (by omega) (by omega) hn hc h).mono ?_; rintro e w' ⟨rfl, rfl⟩)
  go_ret
  exact ⟨rfl, rfl⟩

theorem refSum (A : Option Addr) (n c : Nat) (zs : List Int) (w : World) (hn : n ≤ maxLen) (h : Rd .u8 w A n zs) :
    Calls Try.prog 24 #[.slice A n c] w fun e w' => e = .returned (.int .u32 (adn 1 zs)) ∧ w = w' := by
  go_enter Try.func24, Try.ntmps24
  go_wp2_with (go_at_call 33; refine (refMore 1 _ n c zs _ (by omega) (by omega) hn h).mono ?_; rintro e w' ⟨rfl, rfl⟩)
  go_ret
  exact ⟨rfl, rfl⟩

end Go.Proofs.Ytpcahfjejbiocaa.SumWalks
