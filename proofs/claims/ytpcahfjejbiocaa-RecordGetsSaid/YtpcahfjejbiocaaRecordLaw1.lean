/-
  The walk of the law RecordGets (stage 9). By an AI agent.
-/
import Derived.Test.YtpcahfjejbiocaaRecordAwake
namespace Go.Proofs.Ytpcahfjejbiocaa.Record
open Go.RowKit Go.Proofs.Ytpcahfjejbiocaa.Ints Go.Proofs.Ytpcahfjejbiocaa.Mem Go.Proofs.Ytpcahfjejbiocaa.SumMath Go.Proofs.Ytpcahfjejbiocaa.SumWalks Go.Proofs.Ytpcahfjejbiocaa.Trace

theorem lawGets (A : Option Addr) (n c : Nat) (zs : List Int) (p : Int) (w : World) (hnc : n ≤ c) (hc : c ≤ maxLen) (h : Rd .u8 w A n zs) :
    Calls Try.prog 4 #[.slice A n c, .int .i64 p] w fun e w' => e = .returned (.bool true) ∧ Below w.heap.size w w' := by
  have HG := Lib.hid (lawGot A n c zs p w hnc hc h)
  clear h
  go_enter Try.func4, Try.ntmps4
  go_wp2_with fail
  refine HG.out.mono ?_
  rintro e w1 ⟨rfl, hB1⟩
  go_wp2_with fail
  refine (awake w1).mono ?_
  rintro e w2 ⟨rfl, hB2⟩
  go_wp2
  go_ret
  exact ⟨rfl, hB1.trans (hB2.mono hB1.size)⟩
end Go.Proofs.Ytpcahfjejbiocaa.Record
