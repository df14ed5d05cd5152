/-
  A formula with the past's signs for the future's, or the other way round; a formula of time told backwards (stage 15). By an AI agent.
-/
import Derived.Test.YtdbgaccnejffpaaGreatDoorGSatDual14
import Derived.Test.YtdbgaccnejffpaaGreatDoorGSatDual22
namespace Go.Proofs.YtdbgaccnejffpaaGreatDoor.Sat
open Go.RowKit Go.Proofs.YtdbgaccnejffpaaGreatDoor.Ints Go.Proofs.YtdbgaccnejffpaaGreatDoor.Tree Go.Proofs.YtdbgaccnejffpaaGreatDoor.Paths
section
end
theorem node_fields {l : List Nd} (h : mayL l = true) {i : Nat} {n : Nd} (hn : l[i]? = some n) : fieldsB n = true := by
 obtain ⟨st, -, -, -, h4, -⟩ := node_over h hn
 exact h4
theorem fo_node {l : List Nd} {i : Nat} {n : Nd} (hn : l[i]? = some n) : kindN l i = n.kind ∧ nameN l i = n.name.data.toList ∧ loN l i = n.lo ∧ hiN l i = n.hi := by
 refine ⟨kind_of hn, ?_, ?_, ?_⟩
 ·unfold nameN; rw [hn]; rfl
 ·unfold loN; rw [hn]; rfl
 ·unfold hiN; rw [hn]; rfl
end Go.Proofs.YtdbgaccnejffpaaGreatDoor.Sat
