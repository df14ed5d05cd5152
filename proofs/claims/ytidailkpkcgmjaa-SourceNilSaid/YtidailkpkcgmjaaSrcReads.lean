/-
  The walks of the landed Reads. By an AI agent.
-/
import Derived.Test.YtidailkpkcgmjaaSrcLand
namespace Go.Proofs.Ytidailkpkcgmjaa.Src
open Go.RowKit Go.Proofs.Ytidailkpkcgmjaa.Ints Go.Proofs.Ytidailkpkcgmjaa.Mem

set_option maxHeartbeats 4000000 in
set_option maxRecDepth 100000 in
theorem landReads (S : Nat → Prop) (g : Nat) (bs sc : List Int) (f N : Nat) (w : World) (h : LSrc S w g bs sc f N) :
    Calls Try.prog 11 #[.pointer (some ⟨g, 0, none⟩)] w fun e w' => e = .returned (.int .i64 (N : Nat)) ∧ w' = w := by
  obtain ⟨A, c, B, d, hb, -⟩ := h.ex
  have x3 := hb.cell 3 rfl
  clear hb h
  go_enter Try.func11, Try.ntmps11
  go_wp2
  go_ret
  exact ⟨rfl, rfl⟩
theorem nilReads (w : World) : Calls Try.prog 11 #[.pointer none] w fun e w' => e = .returned (.int .i64 0) ∧ w' = w := by
  go_enter Try.func11, Try.ntmps11
  go_wp2
  go_ret
  exact ⟨rfl, rfl⟩
end Go.Proofs.Ytidailkpkcgmjaa.Src
