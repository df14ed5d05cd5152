/-
  The walk of the law's own table of tokens. By an AI agent.
-/
import Derived.Test.YthadjopkfglecaaLexBase
import Derived.Test.YthadjopkfglecaaLexMath5
namespace Go.Proofs.Ythadjopkfglecaa.Lex
open Go.RowKit

theorem table_cells : ∀ k, k < 26 → (#[.string { data := #[97] }, .string { data := #[98, 50] }, .string { data := #[111, 110, 99, 101] }, .string { data := #[115, 105, 110, 99, 101] }, .string { data := #[102, 111, 114, 101] }, .string { data := #[48] }, .string { data := #[55] }, .string { data := #[57, 57, 57, 57] }, .string { data := #[45, 62] }, .string { data := #[40] }, .string { data := #[41] }, .string { data := #[91] }, .string { data := #[93] }, .string { data := #[123] }, .string { data := #[125] }, .string { data := #[44] }, .string { data := #[42] }, .string { data := #[46] }, .string { data := #[63] }, .string { data := #[43] }, .string { data := #[59] }, .string { data := #[33] }, .string { data := #[38] }, .string { data := #[124] }, .string { data := #[120, 95, 121] }, .string { data := #[116, 114, 117, 101] }] : Array Value)[k]? = some (.string (bytes (table.getD k ([97], 1, [97], 0)).1)) := by
  intro k hk
  match k, hk with
  | 0, _ | 1, _ | 2, _ | 3, _ | 4, _ | 5, _ | 6, _ | 7, _ | 8, _ | 9, _ | 10, _ | 11, _ | 12, _ => rfl
  | q + 13, h => match q, (show q < 13 by omega) with
    | 0, _ | 1, _ | 2, _ | 3, _ | 4, _ | 5, _ | 6, _ | 7, _ | 8, _ | 9, _ | 10, _ | 11, _ | 12, _ => rfl
theorem gap_cells : ∀ k, k < 5 → (#[.string { data := #[32] }, .string { data := #[10] }, .string { data := #[32, 32] }, .string { data := #[32, 10, 32] }, .string { data := #[10, 10] }] : Array Value)[k]? = some (.string (bytes (gapT.getD k [32]))) := by
  intro k hk
  match k, hk with
  | 0, _ | 1, _ | 2, _ | 3, _ | 4, _ => rfl

set_option maxHeartbeats 1000000 in
theorem token (n : Nat) (w : World) (hn : n ≤ 255) :
    Calls Try.prog 13 #[.int .u8 (n : Int)] w fun e w' => e = .returned (.string (bytes (pick n).1)) ∧ Below w.heap.size w w' := by
  obtain ⟨k, hk⟩ : ∃ k, n % 26 = k := ⟨_, rfl⟩
  have c1 : ((n : Int) % 26) = (k : Int) := by omega
  have hk26 : k < 26 := by omega
  have hki : (k : Int) < 26 := by omega
  have hni : (n : Int) ≤ 255 := by omega
  have hc := (cell_of_row _ w.heap.size k _ 9 (0, 0) (heap_alloc_new w _)).trans (table_cells k hk26)
  have hp : (pick n).1 = (table.getD k ([97], 1, [97], 0)).1 := by unfold pick; rw [hk]
  rw [hp]
  obtain ⟨X, hX⟩ : ∃ X, bytes (table.getD k ([97], 1, [97], 0)).1 = X := ⟨_, rfl⟩
  rw [hX] at hc ⊢
  clear hX hp hk hk26 hn
  go_enter Try.func13, Try.ntmps13
  go_wp2
  go_ret
  exact ⟨rfl, (Below.refl _ _).alloc (Nat.le_refl _) _⟩
end Go.Proofs.Ythadjopkfglecaa.Lex
