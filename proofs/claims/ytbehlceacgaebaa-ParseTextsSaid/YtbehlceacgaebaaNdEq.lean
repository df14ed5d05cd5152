/-
  Two nodes are one, or not. By an AI agent.
-/
import Derived.Test.YtbehlceacgaebaaNodes
namespace Go.Proofs.Ytbehlceacgaebaa.Tree
deriving instance DecidableEq for Nd
theorem le_alloc {a : Nat} {w : World} {o : Obj} (h : a ≤ w.heap.size) : a ≤ (w.alloc o).heap.size := by simp; omega
end Go.Proofs.Ytbehlceacgaebaa.Tree
