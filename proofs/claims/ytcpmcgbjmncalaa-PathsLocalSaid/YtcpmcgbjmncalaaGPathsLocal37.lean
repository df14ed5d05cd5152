/-
  The law's points: sets of one word each (stage 14). By an AI agent.
-/
import Derived.Test.YtcpmcgbjmncalaaGPathsLocal8
import Derived.Test.YtcpmcgbjmncalaaGPathsLocal15
namespace Go.Proofs.Ytcpmcgbjmncalaa.Paths
open Go.RowKit Go.Proofs.Ytcpmcgbjmncalaa.Ints Go.Proofs.Ytcpmcgbjmncalaa.Mem Go.Proofs.Ytcpmcgbjmncalaa.Src Go.Proofs.Ytcpmcgbjmncalaa.Tree Go.Proofs.Ytcpmcgbjmncalaa.BitsWalks Go.Proofs.Ytcpmcgbjmncalaa.RdW Go.Proofs.Ytcpmcgbjmncalaa.Words

theorem infoWs : (Try.prog.info? 35).map (fun i => (i.zero, i.size, i.bytes)) = some (some (.slice none 0 0), 1, 24) := by kernel_rfl
/-- What a call that hands back sets of words leaves. -/
def GotV (w : World) (k : Nat) (vs : Nat → List Nat) (e : Ending) (w' : World) : Prop := ∃ A c, e = .returned (.slice A k c) ∧ RdV w' A k vs ∧ k ≤ c ∧ c ≤ maxLen ∧ Below w.heap.size w w'
def ptV (g : Nat) : Value := .slice (some ⟨g, 0, none⟩) 1 1
set_option maxHeartbeats 8000000 in
set_option maxRecDepth 100000 in
theorem lawPoints (A : Option Addr) (n c : Nat) (xs : List Nat) (w : World) (h : RdW w A n xs) (hn : n ≤ maxLen) :
    Calls Try.prog 19 #[.slice A n c] w (GotV w (min n 9) (fun i => [wd xs i])) := by
  have q63 : maxLen = 9223372036854775807 := rfl
  obtain ⟨i0, hi, hz0, hz1, hz2⟩ := info_parts infoWs
  have H := Lib.hid h
  have HW := Lib.hid (RdW.ws h)
  have HB0 := Lib.hid (Below.refl w.heap.size w)
  clear h
  go_enter Try.func19, Try.ntmps19
  go_wp2_with fail
  go_loopw [3, 4, 5, 8] (fun v _ _ vi wr => ∃ (i : Nat) (σ : List Nat), vi = .int .i64 (i : Nat) ∧ i ≤ n ∧ i ≤ 9 ∧ σ.length = i ∧ wr.ownsRow w.heap.size 35 1 v i (σ.map ptV) ∧ Hid (∀ q g, σ[q]? = some g → wr.cell? ⟨g, 0, none⟩ = some (.int .u64 ((wd xs q : Nat) : Int)) ∧ w.heap.size ≤ g ∧ v.ownBlock ≠ some g) ∧ Below w.heap.size w wr) (fun _ _ _ vi _ => n - (intOf vi).toNat)
  case atStart => exact ⟨0, [], rfl, Nat.zero_le _, by decide, rfl, World.ownsRow_nil _ _ _ _, Lib.hid (fun q g hq => by simp at hq), HB0.out⟩
  case round =>
    obtain ⟨i, σ, rfl, hin, hi9, hσ, hown, hkeep, hB⟩ := hrel
    have HB := Lib.hid hB
    have HO := Lib.hid hown
    have HDONE := Lib.hid (show ∀ k, k = i → GotV w k (fun i => [wd xs i]) (.returned u3) wr from fun k hk => by
      subst hk
      obtain ⟨Ar, cr, rfl, hcr, hcm, -, -⟩ := own_slice hown
      refine ⟨Ar, cr, rfl, fun h0 => ?_, hcr, hcm, hB⟩
      rcases hown.2 with ⟨e1, h2⟩ | ⟨g, cap, cur, e1, -⟩
      · exact absurd h2 (by omega)
      · injection e1 with e1 _ _
        subst e1
        refine ⟨g, 0, rfl, fun j hj => ?_⟩
        obtain ⟨x, hx⟩ : ∃ x, σ[j]? = some x := ⟨_, List.getElem?_eq_getElem (by omega)⟩
        have hc := hown.cells (g := g) rfl j (ptV x) (by rw [List.getElem?_map, hx]; rfl)
        rw [Addr.add_lit, Nat.zero_add] at hc
        obtain ⟨k1, -, -⟩ := hkeep.out j x hx
        refine ⟨some ⟨x, 0, none⟩, 1, 1, by rw [Nat.zero_add]; exact hc, ?_, Nat.le_refl _, by omega⟩
        refine ⟨rfl, fun q hq => ?_, fun _ => ⟨x, 0, rfl, fun q hq => ?_⟩⟩
        · obtain rfl : q = 0 := by omega
          exact word_wf (HW.out j)
        · obtain rfl : q = 0 := by omega
          exact k1)
    by_cases hlt : i < n
    · obtain ⟨b, off, rfl, hc⟩ := ((H.out).below hB).cell (by omega)
      have x0 := hc i hlt
      by_cases h9 : i = 9
      · have h9' : (((i : Nat) : Int) == 9) = true := by rw [h9]; rfl
        have HD := Lib.hid (HDONE.out (min n 9) (by omega))
        clear hown hB hc hkeep h9 HO
        go_wp2_with fail
        go_ret
        exact HD.out
      · have h9' : (((i : Nat) : Int) == 9) = false := by rw [beq_eq_false_iff_ne]; omega
        have hx64 := HW.out i
        have HK := Lib.hid hkeep.out
        have HX := Lib.hid x0
        have ha1 := hB.alloc hB.size (.cells #[.int .u64 ((wd xs i : Nat) : Int)] 62)
        have ha2 := ha1.alloc ha1.size (.cells #[.slice (some ⟨wr.heap.size, 0, none⟩) 1 1] 35)
        have HA2 := Lib.hid ha2
        have HS1 := Lib.hid ha1.size
        have HS2 := Lib.hid ha2.size
        clear hB hc h9 hown hkeep ha1 ha2 HDONE
        go_wp2_with (at_builtin; refine wpList_append_one rfl (.tmp 15) (.tmp 18) 30 rfl w.heap.size 35 i0 (.slice none 0 0) 24 Try.underlying30 hi hz0 hz1 hz2 rfl (by decide) u3 i _ rfl (HO.out.alloc _) (.slice (some ⟨wr.heap.size, 0, none⟩) 1 1) rfl _ _ rfl (wr.heap.size + 1) (by simp) rfl (by omega) HS1.out ?_; intro v' w' hown' hgr hat)
        go_roundw
        case rel =>
          have hb2 : Below wr.heap.size wr ((wr.alloc (.cells #[.int .u64 ((wd xs i : Nat) : Int)] 62)).alloc (.cells #[.slice (some ⟨wr.heap.size, 0, none⟩) 1 1] 35)) := ((Below.refl _ wr).alloc (Nat.le_refl _) _).alloc (by simp) _
          have hsz2 : ((wr.alloc (.cells #[.int .u64 ((wd xs i : Nat) : Int)] 62)).alloc (.cells #[.slice (some ⟨wr.heap.size, 0, none⟩) 1 1] 35)).heap.size = wr.heap.size + 2 := by simp
          have hnw : ((wr.alloc (.cells #[.int .u64 ((wd xs i : Nat) : Int)] 62)).alloc (.cells #[.slice (some ⟨wr.heap.size, 0, none⟩) 1 1] 35)).cell? ⟨wr.heap.size, 0, none⟩ = some (.int .u64 ((wd xs i : Nat) : Int)) := by
            refine Mem.below_cell ((Below.refl _ _).alloc (Nat.le_refl _) _) ?_
            rw [cell_of_row _ wr.heap.size 0 _ _ (0, 0) (heap_alloc_new wr _)]
            rfl
          rw [hsz2] at hat
          have hown3 : ∀ g, u3.ownBlock = some g → g < wr.heap.size := fun g hg => (HO.out.lt g hg).2
          refine ⟨i + 1, σ ++ [wr.heap.size], by simp, by omega, by have h9'' : i ≠ 9 := fun e => (beq_eq_false_iff_ne.1 h9') (by omega); omega, by rw [List.length_append, hσ]; rfl, by rw [List.map_append]; exact hown', Lib.hid (fun q g hq => ?_), HA2.out.grown hgr HS2.out (fun k hk => (HO.out.lt k hk).1)⟩
          by_cases hqi : q < i
          · rw [List.getElem?_append_left (by omega)] at hq
            obtain ⟨k1, k2, k3⟩ := HK.out q g hq
            have hgl := World.block_lt_of_cell? wr _ k1
            refine ⟨hgr.cell (Mem.below_cell hb2 k1) (fun e => k3 e.symm), k2, ?_⟩
            rcases hat with e | e
            · rw [e]; exact k3
            · rw [e]; intro e2; injection e2 with e2; have : g < wr.heap.size := hgl; omega
          · rw [List.getElem?_append_right (by omega), hσ] at hq
            have hq1 : q = i := by
              rcases Nat.lt_or_ge (q - i) 1 with h1 | h1
              · omega
              · rw [List.getElem?_eq_none (by simpa using h1)] at hq; cases hq
            subst hq1
            rw [Nat.sub_self, List.getElem?_cons_zero] at hq
            injection hq with hq
            subst hq
            refine ⟨hgr.cell hnw (fun e => by have e3 := hown3 wr.heap.size e.symm; omega), HB.out.size, ?_⟩
            rcases hat with e | e
            · rw [e]; intro e2; have := hown3 _ e2; omega
            · rw [e]; intro e2; injection e2 with e2; omega
        case measure => (show n - (i + 1) < n - i; omega)
    · have HD := Lib.hid (HDONE.out (min n 9) (by omega))
      clear hown hB hkeep
      go_wp2_with fail
      go_ret
      exact HD.out
end Go.Proofs.Ytcpmcgbjmncalaa.Paths
