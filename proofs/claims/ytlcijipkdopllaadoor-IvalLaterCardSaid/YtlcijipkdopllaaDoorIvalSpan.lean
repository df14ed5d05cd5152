/-
  The walk of the laws' own Span: an interval that may be, by numbers. By an AI agent.
-/
import Derived.Test.YtlcijipkdopllaaDoorIvalAwake
import Derived.StillTailTactics
namespace Go.Proofs.YtlcijipkdopllaaDoor.Ival
open Go.RowKit Go.Proofs.YtlcijipkdopllaaDoor.Itoa

theorem lawSpan (lo more : Int) (op : Bool) (w : World) (h1 : 0 ≤ lo ∧ lo ≤ 65535) (h2 : 0 ≤ more ∧ more ≤ 65535) :
    Calls Tryd.prog 22 #[.int .u16 lo, .int .u16 more, .bool op] w fun e w' => e = .returned (span (lo % 10000) (if op = true then -1 else min 9999 (lo % 10000 + more))) ∧ Below w.heap.size w w' := by
  have hsz : (Tryd.prog.info? 23).map (·.size) = some 2 := by kernel_rfl
  obtain ⟨l, hl⟩ : ∃ l, lo % 10000 = l := ⟨_, rfl⟩
  have hl0 : 0 ≤ l := by omega
  have hl1 : l ≤ 9999 := by omega
  obtain ⟨hlo0, hlo1⟩ := h1
  obtain ⟨hm0, hm1⟩ := h2
  rw [hl]
  cases op
  · rw [if_neg (by decide)]
    go_enter Tryd.func22, Tryd.ntmps22
    go_wp2
    refine bodyPost_ret (results_cell_row rfl _ _ w.heap.size 23 #[.int .i64 l, .int .i64 (min 9999 (l + more))] (0, 0) _ rfl (by first | exact (heap_alloc_old _ _ (by simp)).trans (heap_alloc_new w _) | exact (heap_alloc_old _ _ _ (by simp)).trans (heap_alloc_new w _)) Tryd.underlying23 rfl hsz) rfl ?_
    exact ⟨rfl, ((Below.refl _ _).alloc (Nat.le_refl _) _).alloc (by simp) _⟩
  · rw [if_pos rfl]
    go_enter Tryd.func22, Tryd.ntmps22
    go_wp2
    refine bodyPost_ret (results_cell_row rfl _ _ w.heap.size 23 #[.int .i64 l, .int .i64 (-1)] (0, 0) _ rfl (by first | exact (heap_alloc_old _ _ (by simp)).trans (heap_alloc_new w _) | exact (heap_alloc_old _ _ _ (by simp)).trans (heap_alloc_new w _)) Tryd.underlying23 rfl hsz) rfl ?_
    exact ⟨rfl, ((Below.refl _ _).alloc (Nat.le_refl _) _).alloc (by simp) _⟩
end Go.Proofs.YtlcijipkdopllaaDoor.Ival
