/-
  slices.Grow of nil and slices.Concat of two slices of bytes. By an AI agent.
-/
import Derived.Test.YtpcahfjejbiocaaSumWalks4
import Derived.Test.YtpcahfjejbiocaaMemKit
import Derived.Lib.AppendZeros
namespace Go.Proofs.Ytpcahfjejbiocaa.Record
open Go.RowKit Go.Proofs.Ytpcahfjejbiocaa.Ints Go.Proofs.Ytpcahfjejbiocaa.Mem Go.Proofs.Ytpcahfjejbiocaa.SumMath Go.Proofs.Ytpcahfjejbiocaa.SumWalks

theorem zero_size (z : Array Value) (n : Nat) : (Builtin.zeroCells z n).size = n * z.size := by simp [Builtin.zeroCells]

set_option maxHeartbeats 4000000 in
set_option maxRecDepth 100000 in
theorem growNil (n : Nat) (w : World) (h0 : 0 < n) (hn : n ≤ 140737488355328) :
    Calls Try.prog 29 #[.slice none 0 0, .int .i64 n] w fun e w' => ∃ v', e = .returned v' ∧ w'.ownsRow w.heap.size 5 1 v' 0 [] ∧ Below w.heap.size w w' := by
  obtain ⟨i0, hi, hz0, hz1, hz2⟩ := info_parts info5'
  have hrz : ∀ ty, (Builtin.append_ #[22, 3] ty #[.slice none 0 0, .int .i64 (n : Int)]).run Try.prog w =
      .ok (.slice (some ⟨w.heap.size, 0, none⟩) n (grownCap w n 0 5)) (w.drew.alloc (.cells (Builtin.zeroCells (Value.int .u8 0).cells n ++ Builtin.zeroCells (Value.int .u8 0).cells (grownCap w n 0 5 - n)) 5)) := fun ty =>
    Lib.run_append_nil_zeros w 22 3 ty 5 i0 (.int .u8 0) .i64 .i64 Try.underlying22 Try.underlying3 hi hz0 n h0 (by rw [hz1]; decide) (by omega) (by rw [hz2]; omega)
  have hG := grownCap_ge w n 0 5
  have hGm := grownCap_le_maxLen w n 0 5 (by unfold maxLen; omega)
  obtain ⟨G, eG⟩ : ∃ G, grownCap w n 0 5 = G := ⟨_, rfl⟩
  rw [eG] at hrz hG hGm
  have hsz : (Builtin.zeroCells (Value.int .u8 0).cells n ++ Builtin.zeroCells (Value.int .u8 0).cells (G - n)).size = G * 1 := by
    rw [Array.size_append, zero_size, zero_size]
    show n * 1 + (G - n) * 1 = G * 1
    omega
  obtain ⟨cs, hcs⟩ : ∃ cs, Builtin.zeroCells (Value.int .u8 0).cells n ++ Builtin.zeroCells (Value.int .u8 0).cells (G - n) = cs := ⟨_, rfl⟩
  rw [hcs] at hrz hsz
  clear hcs eG
  have g1 : ¬ ((n : Int) < 0) := by omega
  have g2 : (n : Int) > 0 := by omega
  have hGi : (G : Int) ≤ 9223372036854775807 := by have : maxLen = 9223372036854775807 := rfl; omega
  go_enter Try.func29, Try.ntmps29
  go_wp2_with (at_builtin; refine Lib.wpList_append_run _ rfl _ _ _ _ rfl _ _ rfl rfl _ _ (hrz _) ?_)
  go_ret
  exact ⟨_, rfl, World.ownsRow_made w.drew cs G (Nat.le_refl _) hGm hsz, ((Below.refl _ _).drew).alloc (Nat.le_refl _) _⟩

set_option maxHeartbeats 4000000 in
set_option maxRecDepth 100000 in
theorem concat2 (g : Nat) (A1 A2 : Option Addr) (n1 c1 n2 c2 : Nat) (zs1 zs2 : List Int) (w : World) (k0 : w.cell? ⟨g, 0, none⟩ = some (.slice A1 n1 c1)) (k1 : w.cell? ⟨g, 1, none⟩ = some (.slice A2 n2 c2))
    (h1 : Rd .u8 w A1 n1 zs1) (h2 : Rd .u8 w A2 n2 zs2) (h0 : 0 < n1 + n2) (hn : n1 + n2 ≤ 140737488355328) :
    Calls Try.prog 19 #[.slice (some ⟨g, 0, none⟩) 2 2] w (Made w (n1 + n2) (zs1 ++ zs2)) := by
  obtain ⟨i0, hi, hz0, hz1, hz2⟩ := info_parts info5'
  have HG := Lib.hid (growNil (n1 + n2) w h0 hn)
  have q63 : maxLen = 9223372036854775807 := rfl
  have s1 : (n1 : Int) ≤ 140737488355328 := by omega
  have s2 : (n1 : Int) + (n2 : Int) ≤ 140737488355328 := by omega
  have s3 : ¬ ((n1 : Int) < 0) := by omega
  have s4 : ¬ ((n1 : Int) + (n2 : Int) < 0) := by omega
  have hgl : g < w.heap.size := World.block_lt_of_cell? w _ k0
  go_enter Try.func19, Try.ntmps19
  go_wp2
  go_loop [3, 11] (fun s i => (i = .int .i64 0 ∧ s = .int .i64 0) ∨ (i = .int .i64 1 ∧ s = .int .i64 (n1 : Int)) ∨ (i = .int .i64 2 ∧ s = .int .i64 ((n1 : Int) + (n2 : Int)))) (fun _ i => 2 - (intOf i).toNat)
  case atStart => exact Or.inl ⟨rfl, rfl⟩
  case round =>
    rcases hrel with ⟨rfl, rfl⟩ | ⟨rfl, rfl⟩ | ⟨rfl, rfl⟩
    · go_wp2
      go_round
      case rel => exact Or.inr (Or.inl ⟨rfl, rfl⟩)
      case measure => simp [intOf]
    · go_wp2
      go_round
      case rel => exact Or.inr (Or.inr ⟨rfl, rfl⟩)
      case measure => simp [intOf]
    · go_wp2_with fail
      refine HG.out.mono ?_
      rintro e w1 ⟨v', rfl, hown, hB⟩
      have hsz := hB.size
      have m0 := (hB.cell (p := ⟨g, 0, none⟩) hgl).trans k0
      have m1 := (hB.cell (p := ⟨g, 1, none⟩) hgl).trans k1
      go_wp2_with fail
      go_loopw [6, 27] (fun v i wr => Below w.heap.size w wr ∧ ((i = .int .i64 0 ∧ wr.ownsRow w.heap.size 5 1 v 0 (([] : List Int).map (Value.int .u8))) ∨ (i = .int .i64 1 ∧ wr.ownsRow w.heap.size 5 1 v n1 (zs1.map (Value.int .u8))) ∨ (i = .int .i64 2 ∧ wr.ownsRow w.heap.size 5 1 v (n1 + n2) ((zs1 ++ zs2).map (Value.int .u8))))) (fun _ i _ => 2 - (intOf i).toNat)
      case atStart => exact ⟨hB, Or.inl ⟨rfl, hown⟩⟩
      case round =>
        obtain ⟨hBr, hrel⟩ := hrel
        have hszr := hBr.size
        have r0 := (hBr.cell (p := ⟨g, 0, none⟩) hgl).trans k0
        have r1 := (hBr.cell (p := ⟨g, 1, none⟩) hgl).trans k1
        clear m0 m1 hown hB
        rcases hrel with ⟨rfl, hrow⟩ | ⟨rfl, hrow⟩ | ⟨rfl, hrow⟩
        · go_wp2_with (at_builtin; refine wpList_append_ints rfl _ _ 22 rfl .u8 w.heap.size 5 i0 1 Try.underlying22 hi hz0 hz1 hz2 _ _ _ rfl hrow _ _ _ zs1 rfl (h1.below hBr) (by omega) (by omega) hszr ?_; intro v2 w2 hown2 hgr2)
          go_roundw
          case rel => exact ⟨hBr.grown hgr2 hszr (fun z hz => (hrow.lt z hz).1), Or.inr (Or.inl ⟨rfl, by simpa using hown2⟩)⟩
          case measure => simp [intOf]
        · go_wp2_with (at_builtin; refine wpList_append_ints rfl _ _ 22 rfl .u8 w.heap.size 5 i0 1 Try.underlying22 hi hz0 hz1 hz2 _ _ _ rfl hrow _ _ _ zs2 rfl (h2.below hBr) (by omega) (by omega) hszr ?_; intro v2 w2 hown2 hgr2)
          go_roundw
          case rel => exact ⟨hBr.grown hgr2 hszr (fun z hz => (hrow.lt z hz).1), Or.inr (Or.inr ⟨rfl, hown2⟩)⟩
          case measure => simp [intOf]
        · go_wp2
          go_ret
          exact ⟨_, rfl, hrow, hBr⟩
end Go.Proofs.Ytpcahfjejbiocaa.Record
