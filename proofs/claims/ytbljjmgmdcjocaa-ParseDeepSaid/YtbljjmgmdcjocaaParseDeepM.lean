/-
  Nested as deep as may be, and deeper: what the reader in plain lists tells. By an AI agent.
-/
import Derived.Test.YtbljjmgmdcjocaaParseAwake
namespace Go.Proofs.Ytbljjmgmdcjocaa.Parse
open Go.RowKit Go.Proofs.Ytbljjmgmdcjocaa.Ints Go.Proofs.Ytbljjmgmdcjocaa.Lex Go.Proofs.Ytbljjmgmdcjocaa.Tree

/-- The five ways to go deeper. -/
def ways : List (List UInt8) := [[33], [40], [112, 114, 101, 118, 32], [97, 108, 108, 91, 49, 44, 50, 93, 32], [33, 32]]
def wayOf (h : Nat) : List UInt8 := ways.getD h []
def reps (u : List UInt8) : Nat → List UInt8
  | 0 => []
  | n + 1 => reps u n ++ u
def deepText (h k : Nat) : List UInt8 := reps (wayOf h) k ++ [112] ++ (if h = 1 then reps [41] k else [])
def deepOk (h k : Nat) : Bool := let x := parseS false (deepText h k)
  if 40 < k then decide (x.2 = (40 * (wayOf h).length, 3)) && decide (x.1.length = 0) else decide (x.2 = (0, 0)) && decide (x.1.length = if h = 1 then 1 else k + 1)
set_option maxRecDepth 100000 in
theorem deep_all : (List.range 5).all (fun h => (List.range 7).all fun d => deepOk h (37 + d)) = true := by decide +kernel
theorem deep_ok {h d : Nat} (hh : h < 5) (hd : d < 7) : deepOk h (37 + d) = true := by
  have h1 := List.all_eq_true.1 deep_all h (List.mem_range.2 hh)
  exact List.all_eq_true.1 h1 d (List.mem_range.2 hd)
end Go.Proofs.Ytbljjmgmdcjocaa.Parse
