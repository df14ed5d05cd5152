/-
  The walk of awake of layer 4. By an AI agent.
-/
import Derived.Test.YthadjopkfglecaaLexProg
namespace Go.Proofs.Ythadjopkfglecaa.Lex
open Go.RowKit

set_option maxHeartbeats 1000000 in
theorem awake (w : World) :
    Calls Try.prog 10 #[] w fun e w' => e = .returned (.bool true) ∧ Below w.heap.size w w' := by
  have h1 := fun W => progLex { data := #[97, 45, 62, 98] } W (by decide)
  have h2 := fun W => progLex { data := #[97, 32, 45, 32, 98] } W (by decide)
  have e1 : lexS ({ data := #[97, 45, 62, 98] } : ByteArray).data.toList = _ := awake1
  have e2 : lexS ({ data := #[97, 32, 45, 32, 98] } : ByteArray).data.toList = _ := awake2
  rw [e1] at h1
  rw [e2] at h2
  have H1 := Lib.hid h1
  have H2 := Lib.hid h2
  clear h1 h2 e1 e2
  go_enter Try.func10, Try.ntmps10
  go_wp2_with fail
  refine (H1.out _).mono ?_
  rintro e w1 ⟨v1, rfl, t1, hB1⟩
  obtain ⟨b1, c1, rfl, hlt, k1⟩ := toks_some t1
  clear t1
  go_wp2_with fail
  refine (H2.out _).mono ?_
  rintro e w2 ⟨v2, rfl, t2, hB2⟩
  obtain ⟨A2, c2, rfl⟩ := toks_nil t2
  obtain ⟨-, x2, -, x4⟩ := k1 1 ⟨3, [45, 62], 0, 1⟩ rfl
  have y2 : w2.cell? ⟨b1, 5, none⟩ = some (.string { data := #[45, 62] }) := keepc hB2 hlt x2
  have y4 : w2.cell? ⟨b1, 7, none⟩ = some (.int .i64 1) := keepc hB2 hlt x4
  have HB := Lib.hid (hB1.trans (hB2.mono hB1.size))
  clear x2 x4 t2 k1 hB1 hB2
  go_wp2
  go_ret
  exact ⟨rfl, HB.out⟩

end Go.Proofs.Ythadjopkfglecaa.Lex
