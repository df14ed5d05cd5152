/-
  The walk of the law's ids (stage 8). By an AI agent.
-/
import Derived.Test.YtdbgaccnejffpaaGreatDoorGSatDual16
namespace Go.Proofs.YtdbgaccnejffpaaGreatDoor.Trace
open Go.RowKit Go.Proofs.YtdbgaccnejffpaaGreatDoor.Ints Go.Proofs.YtdbgaccnejffpaaGreatDoor.Mem
def idsUp (n k : Nat) : List Int := ((List.range k).filter fun i => n.testBit i).map Int.ofNat
def idsM (n : Nat) : List Int := idsUp n 3
theorem ids_ok : ∀ n, n < 8 → idsOk (idsM n) 3 = true := by decide +kernel
theorem ids_wf : ∀ n, n < 8 → ∀ z ∈ idsM n, (Lit.int .i64 z).wf = true := by decide +kernel
theorem infoInt : (Tryz.prog.info? 3).map (fun i => (i.zero, i.size, i.bytes)) = some (some (.int .i64 0), 1, 8) := by kernel_rfl
def GotIds (w : World) (l : List Int) (e : Ending) (w' : World) : Prop :=
 ∃ A c, e = .returned (.slice A l.length c) ∧ Rd .i64 w' A l.length l ∧ l.length ≤ c ∧ c ≤ maxLen ∧ Below w.heap.size w w' ∧ ∀ a, A = some a → w.heap.size ≤ a.block
set_option maxHeartbeats 8000000 in
set_option maxRecDepth 100000 in
theorem lawIdsI (n : Nat) (m : Int) (hm : m = (n : Int)) (hn : n < 8) (w : World) : Calls Tryz.prog 14 #[.int .u16 m] w (GotIds w (idsM n)) := by
 obtain ⟨i0, hi, hz0, hz1, hz2⟩ := info_parts infoInt
 have hni : m < 8 := by omega
 have hmi : 0 ≤ m := by omega
 have HN := Lib.hid hn
 have HMI := Lib.hid hm
 clear hn hm
 go_enter Tryz.func14, Tryz.ntmps14
 go_wp2
 go_loopw [3, 5] (fun v i wr => ∃ k : Nat, k ≤ 3 ∧ i = .int .i64 k ∧ wr.ownsRow w.heap.size 3 1 v (idsUp n k).length ((idsUp n k).map (Value.int .i64)) ∧ Below w.heap.size w wr) (fun _ i _ => 3 - (intOf i).toNat)
 case atStart => exact ⟨0, Nat.zero_le _, rfl, World.ownsRow_nil _ _ _ _, Below.refl _ _⟩
 case round =>
  obtain ⟨k, hk, rfl, hrow, hB⟩ := hrel
  have HRW := Lib.hid hrow
  have HB := Lib.hid hB
  clear hrow hB
  have h8 : n = 0 ∨ n = 1 ∨ n = 2 ∨ n = 3 ∨ n = 4 ∨ n = 5 ∨ n = 6 ∨ n = 7 := by have := HN.out; omega
  have h3 : k = 0 ∨ k = 1 ∨ k = 2 ∨ k = 3 := by omega
  rcases h3 with rfl | rfl | rfl | rfl
  ·rcases h8 with rfl | rfl | rfl | rfl | rfl | rfl | rfl | rfl
   ·obtain rfl : m = 0 := by have := HMI.out; omega
    go_wp2
    go_roundw
    case rel => exact ⟨1, by omega, by go_num, HRW.out, HB.out⟩
    case measure => simp [intOf]
   ·obtain rfl : m = 1 := by have := HMI.out; omega
    go_wp2_with (at_builtin; refine wpList_append_ints rfl (.tmp 14) (.tmp 16) 35 rfl .i64 w.heap.size 3 i0 8 Tryz.underlying35 hi hz0 hz1 hz2 _ _ _ rfl (HRW.out.alloc _) _ 1 1 [(0 : Int)] rfl (Rd.lit wr 3 (0, 0) [(0 : Int)] (fun z hz => by rw [List.mem_singleton.1 hz]; decide)) (by decide) (by decide) (le_alloc HB.out.size) ?_; intro v2 w2 hown2 hgr2)
    go_roundw
    case rel => exact ⟨1, by omega, by go_num, hown2, (HB.out.alloc HB.out.size _).grown hgr2 (le_alloc HB.out.size) (fun z hz => (HRW.out.lt z hz).1)⟩
    case measure => simp [intOf]
   ·obtain rfl : m = 2 := by have := HMI.out; omega
    go_wp2
    go_roundw
    case rel => exact ⟨1, by omega, by go_num, HRW.out, HB.out⟩
    case measure => simp [intOf]
   ·obtain rfl : m = 3 := by have := HMI.out; omega
    go_wp2_with (at_builtin; refine wpList_append_ints rfl (.tmp 14) (.tmp 16) 35 rfl .i64 w.heap.size 3 i0 8 Tryz.underlying35 hi hz0 hz1 hz2 _ _ _ rfl (HRW.out.alloc _) _ 1 1 [(0 : Int)] rfl (Rd.lit wr 3 (0, 0) [(0 : Int)] (fun z hz => by rw [List.mem_singleton.1 hz]; decide)) (by decide) (by decide) (le_alloc HB.out.size) ?_; intro v2 w2 hown2 hgr2)
    go_roundw
    case rel => exact ⟨1, by omega, by go_num, hown2, (HB.out.alloc HB.out.size _).grown hgr2 (le_alloc HB.out.size) (fun z hz => (HRW.out.lt z hz).1)⟩
    case measure => simp [intOf]
   ·obtain rfl : m = 4 := by have := HMI.out; omega
    go_wp2
    go_roundw
    case rel => exact ⟨1, by omega, by go_num, HRW.out, HB.out⟩
    case measure => simp [intOf]
   ·obtain rfl : m = 5 := by have := HMI.out; omega
    go_wp2_with (at_builtin; refine wpList_append_ints rfl (.tmp 14) (.tmp 16) 35 rfl .i64 w.heap.size 3 i0 8 Tryz.underlying35 hi hz0 hz1 hz2 _ _ _ rfl (HRW.out.alloc _) _ 1 1 [(0 : Int)] rfl (Rd.lit wr 3 (0, 0) [(0 : Int)] (fun z hz => by rw [List.mem_singleton.1 hz]; decide)) (by decide) (by decide) (le_alloc HB.out.size) ?_; intro v2 w2 hown2 hgr2)
    go_roundw
    case rel => exact ⟨1, by omega, by go_num, hown2, (HB.out.alloc HB.out.size _).grown hgr2 (le_alloc HB.out.size) (fun z hz => (HRW.out.lt z hz).1)⟩
    case measure => simp [intOf]
   ·obtain rfl : m = 6 := by have := HMI.out; omega
    go_wp2
    go_roundw
    case rel => exact ⟨1, by omega, by go_num, HRW.out, HB.out⟩
    case measure => simp [intOf]
   ·obtain rfl : m = 7 := by have := HMI.out; omega
    go_wp2_with (at_builtin; refine wpList_append_ints rfl (.tmp 14) (.tmp 16) 35 rfl .i64 w.heap.size 3 i0 8 Tryz.underlying35 hi hz0 hz1 hz2 _ _ _ rfl (HRW.out.alloc _) _ 1 1 [(0 : Int)] rfl (Rd.lit wr 3 (0, 0) [(0 : Int)] (fun z hz => by rw [List.mem_singleton.1 hz]; decide)) (by decide) (by decide) (le_alloc HB.out.size) ?_; intro v2 w2 hown2 hgr2)
    go_roundw
    case rel => exact ⟨1, by omega, by go_num, hown2, (HB.out.alloc HB.out.size _).grown hgr2 (le_alloc HB.out.size) (fun z hz => (HRW.out.lt z hz).1)⟩
    case measure => simp [intOf]
  ·rcases h8 with rfl | rfl | rfl | rfl | rfl | rfl | rfl | rfl
   ·obtain rfl : m = 0 := by have := HMI.out; omega
    go_wp2
    go_roundw
    case rel => exact ⟨2, by omega, by go_num, HRW.out, HB.out⟩
    case measure => simp [intOf]
   ·obtain rfl : m = 1 := by have := HMI.out; omega
    go_wp2
    go_roundw
    case rel => exact ⟨2, by omega, by go_num, HRW.out, HB.out⟩
    case measure => simp [intOf]
   ·obtain rfl : m = 2 := by have := HMI.out; omega
    go_wp2_with (at_builtin; refine wpList_append_ints rfl (.tmp 14) (.tmp 16) 35 rfl .i64 w.heap.size 3 i0 8 Tryz.underlying35 hi hz0 hz1 hz2 _ _ _ rfl (HRW.out.alloc _) _ 1 1 [(1 : Int)] rfl (Rd.lit wr 3 (0, 0) [(1 : Int)] (fun z hz => by rw [List.mem_singleton.1 hz]; decide)) (by decide) (by decide) (le_alloc HB.out.size) ?_; intro v2 w2 hown2 hgr2)
    go_roundw
    case rel => exact ⟨2, by omega, by go_num, hown2, (HB.out.alloc HB.out.size _).grown hgr2 (le_alloc HB.out.size) (fun z hz => (HRW.out.lt z hz).1)⟩
    case measure => simp [intOf]
   ·obtain rfl : m = 3 := by have := HMI.out; omega
    go_wp2_with (at_builtin; refine wpList_append_ints rfl (.tmp 14) (.tmp 16) 35 rfl .i64 w.heap.size 3 i0 8 Tryz.underlying35 hi hz0 hz1 hz2 _ _ _ rfl (HRW.out.alloc _) _ 1 1 [(1 : Int)] rfl (Rd.lit wr 3 (0, 0) [(1 : Int)] (fun z hz => by rw [List.mem_singleton.1 hz]; decide)) (by decide) (by decide) (le_alloc HB.out.size) ?_; intro v2 w2 hown2 hgr2)
    go_roundw
    case rel => exact ⟨2, by omega, by go_num, hown2, (HB.out.alloc HB.out.size _).grown hgr2 (le_alloc HB.out.size) (fun z hz => (HRW.out.lt z hz).1)⟩
    case measure => simp [intOf]
   ·obtain rfl : m = 4 := by have := HMI.out; omega
    go_wp2
    go_roundw
    case rel => exact ⟨2, by omega, by go_num, HRW.out, HB.out⟩
    case measure => simp [intOf]
   ·obtain rfl : m = 5 := by have := HMI.out; omega
    go_wp2
    go_roundw
    case rel => exact ⟨2, by omega, by go_num, HRW.out, HB.out⟩
    case measure => simp [intOf]
   ·obtain rfl : m = 6 := by have := HMI.out; omega
    go_wp2_with (at_builtin; refine wpList_append_ints rfl (.tmp 14) (.tmp 16) 35 rfl .i64 w.heap.size 3 i0 8 Tryz.underlying35 hi hz0 hz1 hz2 _ _ _ rfl (HRW.out.alloc _) _ 1 1 [(1 : Int)] rfl (Rd.lit wr 3 (0, 0) [(1 : Int)] (fun z hz => by rw [List.mem_singleton.1 hz]; decide)) (by decide) (by decide) (le_alloc HB.out.size) ?_; intro v2 w2 hown2 hgr2)
    go_roundw
    case rel => exact ⟨2, by omega, by go_num, hown2, (HB.out.alloc HB.out.size _).grown hgr2 (le_alloc HB.out.size) (fun z hz => (HRW.out.lt z hz).1)⟩
    case measure => simp [intOf]
   ·obtain rfl : m = 7 := by have := HMI.out; omega
    go_wp2_with (at_builtin; refine wpList_append_ints rfl (.tmp 14) (.tmp 16) 35 rfl .i64 w.heap.size 3 i0 8 Tryz.underlying35 hi hz0 hz1 hz2 _ _ _ rfl (HRW.out.alloc _) _ 1 1 [(1 : Int)] rfl (Rd.lit wr 3 (0, 0) [(1 : Int)] (fun z hz => by rw [List.mem_singleton.1 hz]; decide)) (by decide) (by decide) (le_alloc HB.out.size) ?_; intro v2 w2 hown2 hgr2)
    go_roundw
    case rel => exact ⟨2, by omega, by go_num, hown2, (HB.out.alloc HB.out.size _).grown hgr2 (le_alloc HB.out.size) (fun z hz => (HRW.out.lt z hz).1)⟩
    case measure => simp [intOf]
  ·rcases h8 with rfl | rfl | rfl | rfl | rfl | rfl | rfl | rfl
   ·obtain rfl : m = 0 := by have := HMI.out; omega
    go_wp2
    go_roundw
    case rel => exact ⟨3, by omega, by go_num, HRW.out, HB.out⟩
    case measure => simp [intOf]
   ·obtain rfl : m = 1 := by have := HMI.out; omega
    go_wp2
    go_roundw
    case rel => exact ⟨3, by omega, by go_num, HRW.out, HB.out⟩
    case measure => simp [intOf]
   ·obtain rfl : m = 2 := by have := HMI.out; omega
    go_wp2
    go_roundw
    case rel => exact ⟨3, by omega, by go_num, HRW.out, HB.out⟩
    case measure => simp [intOf]
   ·obtain rfl : m = 3 := by have := HMI.out; omega
    go_wp2
    go_roundw
    case rel => exact ⟨3, by omega, by go_num, HRW.out, HB.out⟩
    case measure => simp [intOf]
   ·obtain rfl : m = 4 := by have := HMI.out; omega
    go_wp2_with (at_builtin; refine wpList_append_ints rfl (.tmp 14) (.tmp 16) 35 rfl .i64 w.heap.size 3 i0 8 Tryz.underlying35 hi hz0 hz1 hz2 _ _ _ rfl (HRW.out.alloc _) _ 1 1 [(2 : Int)] rfl (Rd.lit wr 3 (0, 0) [(2 : Int)] (fun z hz => by rw [List.mem_singleton.1 hz]; decide)) (by decide) (by decide) (le_alloc HB.out.size) ?_; intro v2 w2 hown2 hgr2)
    go_roundw
    case rel => exact ⟨3, by omega, by go_num, hown2, (HB.out.alloc HB.out.size _).grown hgr2 (le_alloc HB.out.size) (fun z hz => (HRW.out.lt z hz).1)⟩
    case measure => simp [intOf]
   ·obtain rfl : m = 5 := by have := HMI.out; omega
    go_wp2_with (at_builtin; refine wpList_append_ints rfl (.tmp 14) (.tmp 16) 35 rfl .i64 w.heap.size 3 i0 8 Tryz.underlying35 hi hz0 hz1 hz2 _ _ _ rfl (HRW.out.alloc _) _ 1 1 [(2 : Int)] rfl (Rd.lit wr 3 (0, 0) [(2 : Int)] (fun z hz => by rw [List.mem_singleton.1 hz]; decide)) (by decide) (by decide) (le_alloc HB.out.size) ?_; intro v2 w2 hown2 hgr2)
    go_roundw
    case rel => exact ⟨3, by omega, by go_num, hown2, (HB.out.alloc HB.out.size _).grown hgr2 (le_alloc HB.out.size) (fun z hz => (HRW.out.lt z hz).1)⟩
    case measure => simp [intOf]
   ·obtain rfl : m = 6 := by have := HMI.out; omega
    go_wp2_with (at_builtin; refine wpList_append_ints rfl (.tmp 14) (.tmp 16) 35 rfl .i64 w.heap.size 3 i0 8 Tryz.underlying35 hi hz0 hz1 hz2 _ _ _ rfl (HRW.out.alloc _) _ 1 1 [(2 : Int)] rfl (Rd.lit wr 3 (0, 0) [(2 : Int)] (fun z hz => by rw [List.mem_singleton.1 hz]; decide)) (by decide) (by decide) (le_alloc HB.out.size) ?_; intro v2 w2 hown2 hgr2)
    go_roundw
    case rel => exact ⟨3, by omega, by go_num, hown2, (HB.out.alloc HB.out.size _).grown hgr2 (le_alloc HB.out.size) (fun z hz => (HRW.out.lt z hz).1)⟩
    case measure => simp [intOf]
   ·obtain rfl : m = 7 := by have := HMI.out; omega
    go_wp2_with (at_builtin; refine wpList_append_ints rfl (.tmp 14) (.tmp 16) 35 rfl .i64 w.heap.size 3 i0 8 Tryz.underlying35 hi hz0 hz1 hz2 _ _ _ rfl (HRW.out.alloc _) _ 1 1 [(2 : Int)] rfl (Rd.lit wr 3 (0, 0) [(2 : Int)] (fun z hz => by rw [List.mem_singleton.1 hz]; decide)) (by decide) (by decide) (le_alloc HB.out.size) ?_; intro v2 w2 hown2 hgr2)
    go_roundw
    case rel => exact ⟨3, by omega, by go_num, hown2, (HB.out.alloc HB.out.size _).grown hgr2 (le_alloc HB.out.size) (fun z hz => (HRW.out.lt z hz).1)⟩
    case measure => simp [intOf]
  ·clear h8
   go_wp2
   go_ret
   obtain ⟨A, c, e, h1, h2, -, h4⟩ := own_slice HRW.out
   subst e
   exact ⟨A, c, rfl, Rd.own HRW.out (ids_wf n HN.out), h1, h2, HB.out, fun a ha => (h4 a ha).1⟩
theorem lawIds (n : Nat) (hn : n < 8) (w : World) : Calls Tryz.prog 14 #[.int .u16 (n : Int)] w (GotIds w (idsM n)) := lawIdsI n n rfl hn w
end Go.Proofs.YtdbgaccnejffpaaGreatDoor.Trace
