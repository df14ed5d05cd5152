/-
  The walks of the landed package record: write. By an AI agent.
-/
import Derived.Test.YtpcahfjejbiocaaRecordLand1
namespace Go.Proofs.Ytpcahfjejbiocaa.Record
open Go.RowKit Go.Proofs.Ytpcahfjejbiocaa.Ints Go.Proofs.Ytpcahfjejbiocaa.Mem Go.Proofs.Ytpcahfjejbiocaa.SumMath Go.Proofs.Ytpcahfjejbiocaa.SumWalks Go.Proofs.Ytpcahfjejbiocaa.Trace

theorem one_byte {z : Int} (h : 0 ≤ z ∧ z ≤ 255) : ∀ y ∈ [z], (Lit.int .u8 y).wf = true := fun y hy => by rw [List.mem_singleton.1 hy]; exact u8_wf h
theorem row_more {w : World} {base : Nat} {e : TypeId} {v : Value} {n m : Nat} {xs ys : List Int} {k : IntKind} (hm : n = m) (h : xs = ys) (ho : w.ownsRow base e 1 v n (xs.map (Value.int k))) : w.ownsRow base e 1 v m (ys.map (Value.int k)) := by
  subst hm; subst h; exact ho

set_option maxHeartbeats 4000000 in
set_option maxRecDepth 100000 in
theorem landWrite2 (v : Value) (n : Nat) (zs : List Int) (x : Int) (base : Nat) (w : World) (hx0 : 0 ≤ x) (hx1 : x ≤ 65535) (hown : w.ownsRow base 5 1 v n (zs.map (Value.int .u8))) (hb : base ≤ w.heap.size) (hn : n ≤ 1000) :
    Calls Try.prog 31 #[v, .int .u64 x, .int .i64 2] w fun e w' => ∃ v', e = .returned v' ∧ w'.ownsRow base 5 1 v' (n + 2) ((zs ++ be2 x).map (Value.int .u8)) ∧ Below base w w' := by
  obtain ⟨i0, hi, hz0, hz1, hz2⟩ := info_parts info5'
  go_enter Try.func31, Try.ntmps31
  go_wp2
  go_loopw [0, 7] (fun v i wr => ∃ k : Nat, k ≤ 2 ∧ i = .int .i64 (1 - (k : Int)) ∧ wr.ownsRow base 5 1 v (n + k) ((zs ++ (be2 x).take k).map (Value.int .u8)) ∧ Below base w wr) (fun _ i _ => (intOf i + 1).toNat)
  case atStart => exact ⟨0, Nat.zero_le _, rfl, by simpa using hown, Below.refl _ _⟩
  case round =>
    obtain ⟨k, hk, rfl, hrow, hB⟩ := hrel
    have hBs : base ≤ wr.heap.size := Nat.le_trans hb hB.size
    obtain rfl | rfl | rfl : k = 0 ∨ k = 1 ∨ k = 2 := by omega
    · go_wp2_with (at_builtin; refine wpList_append_ints rfl (.tmp 14) (.tmp 20) 22 rfl .u8 base 5 i0 1 Try.underlying22 hi hz0 hz1 hz2 _ _ _ rfl (hrow.alloc _) _ 1 1 [x / 256] rfl (Rd.lit wr 5 (0, 0) [x / 256] (one_byte (by omega))) (by have : maxLen = 9223372036854775807 := rfl; omega) (by omega) (le_alloc hBs) ?_; intro v2 w2 hown2 hgr2)
      go_roundw
      case rel => exact ⟨1, by omega, by go_num, row_more rfl (by simp [be2] <;> omega) hown2, (hB.alloc hBs _).grown hgr2 (le_alloc hBs) (fun z hz => (hrow.lt z hz).1)⟩
      case measure => simp [intOf]
    · go_wp2_with (at_builtin; refine wpList_append_ints rfl (.tmp 14) (.tmp 20) 22 rfl .u8 base 5 i0 1 Try.underlying22 hi hz0 hz1 hz2 _ _ _ rfl (hrow.alloc _) _ 1 1 [x % 256] rfl (Rd.lit wr 5 (0, 0) [x % 256] (one_byte (by omega))) (by have : maxLen = 9223372036854775807 := rfl; omega) (by omega) (le_alloc hBs) ?_; intro v2 w2 hown2 hgr2)
      go_roundw
      case rel => exact ⟨2, by omega, by go_num, row_more rfl (by simp [be2] <;> omega) hown2, (hB.alloc hBs _).grown hgr2 (le_alloc hBs) (fun z hz => (hrow.lt z hz).1)⟩
      case measure => simp [intOf]
    · go_wp2
      go_ret
      exact ⟨_, rfl, hrow, hB⟩

set_option maxHeartbeats 4000000 in
set_option maxRecDepth 100000 in
theorem landWrite8 (v : Value) (n : Nat) (zs : List Int) (x : Int) (base : Nat) (w : World) (hx0 : 0 ≤ x) (hx1 : x ≤ 18446744073709551615) (hown : w.ownsRow base 5 1 v n (zs.map (Value.int .u8))) (hb : base ≤ w.heap.size) (hn : n ≤ 1000) :
    Calls Try.prog 31 #[v, .int .u64 x, .int .i64 8] w fun e w' => ∃ v', e = .returned v' ∧ w'.ownsRow base 5 1 v' (n + 8) ((zs ++ be8 x).map (Value.int .u8)) ∧ Below base w w' := by
  obtain ⟨i0, hi, hz0, hz1, hz2⟩ := info_parts info5'
  go_enter Try.func31, Try.ntmps31
  go_wp2
  go_loopw [0, 7] (fun v i wr => ∃ k : Nat, k ≤ 8 ∧ i = .int .i64 (7 - (k : Int)) ∧ wr.ownsRow base 5 1 v (n + k) ((zs ++ (be8 x).take k).map (Value.int .u8)) ∧ Below base w wr) (fun _ i _ => (intOf i + 1).toNat)
  case atStart => exact ⟨0, Nat.zero_le _, rfl, by simpa using hown, Below.refl _ _⟩
  case round =>
    obtain ⟨k, hk, rfl, hrow, hB⟩ := hrel
    have hBs : base ≤ wr.heap.size := Nat.le_trans hb hB.size
    obtain rfl | rfl | rfl | rfl | rfl | rfl | rfl | rfl | rfl : k = 0 ∨ k = 1 ∨ k = 2 ∨ k = 3 ∨ k = 4 ∨ k = 5 ∨ k = 6 ∨ k = 7 ∨ k = 8 := by omega
    · go_wp2_with (at_builtin; refine wpList_append_ints rfl (.tmp 14) (.tmp 20) 22 rfl .u8 base 5 i0 1 Try.underlying22 hi hz0 hz1 hz2 _ _ _ rfl (hrow.alloc _) _ 1 1 [x / 72057594037927936] rfl (Rd.lit wr 5 (0, 0) [x / 72057594037927936] (one_byte (by omega))) (by have : maxLen = 9223372036854775807 := rfl; omega) (by omega) (le_alloc hBs) ?_; intro v2 w2 hown2 hgr2)
      go_roundw
      case rel => exact ⟨1, by omega, by go_num, row_more rfl (by simp [be8] <;> omega) hown2, (hB.alloc hBs _).grown hgr2 (le_alloc hBs) (fun z hz => (hrow.lt z hz).1)⟩
      case measure => simp [intOf]
    · go_wp2_with (at_builtin; refine wpList_append_ints rfl (.tmp 14) (.tmp 20) 22 rfl .u8 base 5 i0 1 Try.underlying22 hi hz0 hz1 hz2 _ _ _ rfl (hrow.alloc _) _ 1 1 [x / 281474976710656 % 256] rfl (Rd.lit wr 5 (0, 0) [x / 281474976710656 % 256] (one_byte (by omega))) (by have : maxLen = 9223372036854775807 := rfl; omega) (by omega) (le_alloc hBs) ?_; intro v2 w2 hown2 hgr2)
      go_roundw
      case rel => exact ⟨2, by omega, by go_num, row_more rfl (by simp [be8] <;> omega) hown2, (hB.alloc hBs _).grown hgr2 (le_alloc hBs) (fun z hz => (hrow.lt z hz).1)⟩
      case measure => simp [intOf]
    · go_wp2_with (at_builtin; refine wpList_append_ints rfl (.tmp 14) (.tmp 20) 22 rfl .u8 base 5 i0 1 Try.underlying22 hi hz0 hz1 hz2 _ _ _ rfl (hrow.alloc _) _ 1 1 [x / 1099511627776 % 256] rfl (Rd.lit wr 5 (0, 0) [x / 1099511627776 % 256] (one_byte (by omega))) (by have : maxLen = 9223372036854775807 := rfl; omega) (by omega) (le_alloc hBs) ?_; intro v2 w2 hown2 hgr2)
      go_roundw
      case rel => exact ⟨3, by omega, by go_num, row_more rfl (by simp [be8] <;> omega) hown2, (hB.alloc hBs _).grown hgr2 (le_alloc hBs) (fun z hz => (hrow.lt z hz).1)⟩
      case measure => simp [intOf]
    · go_wp2_with (at_builtin; refine wpList_append_ints rfl (.tmp 14) (.tmp 20) 22 rfl .u8 base 5 i0 1 Try.underlying22 hi hz0 hz1 hz2 _ _ _ rfl (hrow.alloc _) _ 1 1 [x / 4294967296 % 256] rfl (Rd.lit wr 5 (0, 0) [x / 4294967296 % 256] (one_byte (by omega))) (by have : maxLen = 9223372036854775807 := rfl; omega) (by omega) (le_alloc hBs) ?_; intro v2 w2 hown2 hgr2)
      go_roundw
      case rel => exact ⟨4, by omega, by go_num, row_more rfl (by simp [be8] <;> omega) hown2, (hB.alloc hBs _).grown hgr2 (le_alloc hBs) (fun z hz => (hrow.lt z hz).1)⟩
      case measure => simp [intOf]
    · go_wp2_with (at_builtin; refine wpList_append_ints rfl (.tmp 14) (.tmp 20) 22 rfl .u8 base 5 i0 1 Try.underlying22 hi hz0 hz1 hz2 _ _ _ rfl (hrow.alloc _) _ 1 1 [x / 16777216 % 256] rfl (Rd.lit wr 5 (0, 0) [x / 16777216 % 256] (one_byte (by omega))) (by have : maxLen = 9223372036854775807 := rfl; omega) (by omega) (le_alloc hBs) ?_; intro v2 w2 hown2 hgr2)
      go_roundw
      case rel => exact ⟨5, by omega, by go_num, row_more rfl (by simp [be8] <;> omega) hown2, (hB.alloc hBs _).grown hgr2 (le_alloc hBs) (fun z hz => (hrow.lt z hz).1)⟩
      case measure => simp [intOf]
    · go_wp2_with (at_builtin; refine wpList_append_ints rfl (.tmp 14) (.tmp 20) 22 rfl .u8 base 5 i0 1 Try.underlying22 hi hz0 hz1 hz2 _ _ _ rfl (hrow.alloc _) _ 1 1 [x / 65536 % 256] rfl (Rd.lit wr 5 (0, 0) [x / 65536 % 256] (one_byte (by omega))) (by have : maxLen = 9223372036854775807 := rfl; omega) (by omega) (le_alloc hBs) ?_; intro v2 w2 hown2 hgr2)
      go_roundw
      case rel => exact ⟨6, by omega, by go_num, row_more rfl (by simp [be8] <;> omega) hown2, (hB.alloc hBs _).grown hgr2 (le_alloc hBs) (fun z hz => (hrow.lt z hz).1)⟩
      case measure => simp [intOf]
    · go_wp2_with (at_builtin; refine wpList_append_ints rfl (.tmp 14) (.tmp 20) 22 rfl .u8 base 5 i0 1 Try.underlying22 hi hz0 hz1 hz2 _ _ _ rfl (hrow.alloc _) _ 1 1 [x / 256 % 256] rfl (Rd.lit wr 5 (0, 0) [x / 256 % 256] (one_byte (by omega))) (by have : maxLen = 9223372036854775807 := rfl; omega) (by omega) (le_alloc hBs) ?_; intro v2 w2 hown2 hgr2)
      go_roundw
      case rel => exact ⟨7, by omega, by go_num, row_more rfl (by simp [be8] <;> omega) hown2, (hB.alloc hBs _).grown hgr2 (le_alloc hBs) (fun z hz => (hrow.lt z hz).1)⟩
      case measure => simp [intOf]
    · go_wp2_with (at_builtin; refine wpList_append_ints rfl (.tmp 14) (.tmp 20) 22 rfl .u8 base 5 i0 1 Try.underlying22 hi hz0 hz1 hz2 _ _ _ rfl (hrow.alloc _) _ 1 1 [x % 256] rfl (Rd.lit wr 5 (0, 0) [x % 256] (one_byte (by omega))) (by have : maxLen = 9223372036854775807 := rfl; omega) (by omega) (le_alloc hBs) ?_; intro v2 w2 hown2 hgr2)
      go_roundw
      case rel => exact ⟨8, by omega, by go_num, row_more rfl (by simp [be8] <;> omega) hown2, (hB.alloc hBs _).grown hgr2 (le_alloc hBs) (fun z hz => (hrow.lt z hz).1)⟩
      case measure => simp [intOf]
    · go_wp2
      go_ret
      exact ⟨_, rfl, hrow, hB⟩
end Go.Proofs.Ytpcahfjejbiocaa.Record
