/-
  A drawn region taken by hand: what is asked behind each operation may grow on the way, by what a call has laid. By an AI agent.
-/
import Derived.Deep.RegionHeld3
namespace Go.Proofs.Ytpcahfjejbiocaa.Held
open Go
variable {P : Program} {ops : Array Oper} {Q : Exit → Act → World → Prop} {md : Region.Mode} {S S' : World → Prop}

theorem mono (h : ∀ W, S' W → S W) : ∀ (fuel : Nat) (listed : Array Bool) (a : Act) (w : World), wpAnyH P md ops Q S' fuel listed a w → wpAnyH P md ops Q S fuel listed a w
  | 0, _, _, _, H => H
  | fuel + 1, _, _, _, H => ⟨H.1, fun i hi => wpOp_mono (fun a' w' h' => ⟨h _ h'.1, mono h fuel _ a' w' h'.2⟩) (H.2 i hi)⟩
/-- From here on S' is asked, which says more, and holds now. -/
theorem more {fuel : Nat} {listed : Array Bool} {a : Act} {w : World} (S' : World → Prop) (h : ∀ W, S' W → S W) (hS : S' w) (H : S' w → wpAnyH P md ops Q S' fuel listed a w) : wpAnyH P md ops Q S fuel listed a w :=
  mono h fuel listed a w (H hS)
end Go.Proofs.Ytpcahfjejbiocaa.Held
