/-
  The walk of the law's ids (stage 8). By an AI agent.
  Operations of a drawn region that are not wanted, a row of them passed at once. By an AI agent.
-/
import Derived.Test.YtgfifjcecpllbaaGLogEncodes8
import Derived.Deep.RegionHeld3
namespace Go.Proofs.Ytgfifjcecpllbaa.Trace
open Go.RowKit Go.Proofs.Ytgfifjcecpllbaa.Ints Go.Proofs.Ytgfifjcecpllbaa.Mem

/-- The ids of three names, by bits: those below k. -/
def idsUp (n k : Nat) : List Int := ((List.range k).filter fun i => n.testBit i).map Int.ofNat
def idsM (n : Nat) : List Int := idsUp n 3
theorem ids_ok : ∀ n, n < 8 → idsOk (idsM n) 3 = true := by decide +kernel
theorem ids_len : ∀ n, n < 8 → (idsM n).length ≤ 3 := by decide +kernel
theorem ids_wf : ∀ n, n < 8 → ∀ z ∈ idsM n, (Lit.int .i64 z).wf = true := by decide +kernel
theorem infoInt : (Try.prog.info? 3).map (fun i => (i.zero, i.size, i.bytes)) = some (some (.int .i64 0), 1, 8) := by kernel_rfl
/-- What a call that hands back ids of its own leaves. -/
def GotIds (w : World) (l : List Int) (e : Ending) (w' : World) : Prop :=
  ∃ A c, e = .returned (.slice A l.length c) ∧ Rd .i64 w' A l.length l ∧ l.length ≤ c ∧ c ≤ maxLen ∧ Below w.heap.size w w' ∧ ∀ a, A = some a → w.heap.size ≤ a.block

set_option maxHeartbeats 8000000 in
set_option maxRecDepth 100000 in
theorem lawIdsI (n : Nat) (m : Int) (hm : m = (n : Int)) (hn : n < 8) (w : World) : Calls Try.prog 23 #[.int .u16 m] w (GotIds w (idsM n)) := by
  obtain ⟨i0, hi, hz0, hz1, hz2⟩ := info_parts infoInt
  have hni : m < 8 := by omega
  have hmi : 0 ≤ m := by omega
  have HN := Lib.hid hn
  have HMI := Lib.hid hm
  clear hn hm
  go_enter Try.func23, Try.ntmps23
  go_wp2
  go_loopw [3, 5] (fun v i wr => ∃ k : Nat, k ≤ 3 ∧ i = .int .i64 k ∧ wr.ownsRow w.heap.size 3 1 v (idsUp n k).length ((idsUp n k).map (Value.int .i64)) ∧ Below w.heap.size w wr) (fun _ i _ => 3 - (intOf i).toNat)
  case atStart => exact ⟨0, Nat.zero_le _, rfl, World.ownsRow_nil _ _ _ _, Below.refl _ _⟩
  case round =>
    obtain ⟨k, hk, rfl, hrow, hB⟩ := hrel
    have HRW := Lib.hid hrow
    have HB := Lib.hid hB
    clear hrow hB
    have h8 : n = 0 ∨ n = 1 ∨ n = 2 ∨ n = 3 ∨ n = 4 ∨ n = 5 ∨ n = 6 ∨ n = 7 := by have := HN.out; omega
    have h3 : k = 0 ∨ k = 1 ∨ k = 2 ∨ k = 3 := by omega
    rcases h3 with rfl | rfl | rfl | rfl
    · rcases h8 with rfl | rfl | rfl | rfl | rfl | rfl | rfl | rfl
      · obtain rfl : m = 0 := by have := HMI.out; omega
        go_wp2
        go_roundw
        case rel => exact ⟨1, by omega, by go_num, HRW.out, HB.out⟩
        case measure => simp [intOf]
      · obtain rfl : m = 1 := by have := HMI.out; omega
        go_wp2_with (at_builtin; refine wpList_append_ints rfl (.tmp 14) (.tmp 16) 37 rfl .i64 w.heap.size 3 i0 8 Try.underlying37 hi hz0 hz1 hz2 _ _ _ rfl (HRW.out.alloc _) _ 1 1 [(0 : Int)] rfl (Rd.lit wr 3 (0, 0) [(0 : Int)] (fun z hz => by rw [List.mem_singleton.1 hz]; decide)) (by decide) (by decide) (le_alloc HB.out.size) ?_; intro v2 w2 hown2 hgr2)
        go_roundw
        case rel => exact ⟨1, by omega, by go_num, hown2, (HB.out.alloc HB.out.size _).grown hgr2 (le_alloc HB.out.size) (fun z hz => (HRW.out.lt z hz).1)⟩
        case measure => simp [intOf]
      · obtain rfl : m = 2 := by have := HMI.out; omega
        go_wp2
        go_roundw
        case rel => exact ⟨1, by omega, by go_num, HRW.out, HB.out⟩
        case measure => simp [intOf]
      · obtain rfl : m = 3 := by have := HMI.out; omega
        go_wp2_with (at_builtin; refine wpList_append_ints rfl (.tmp 14) (.tmp 16) 37 rfl .i64 w.heap.size 3 i0 8 Try.underlying37 hi hz0 hz1 hz2 _ _ _ rfl (HRW.out.alloc _) _ 1 1 [(0 : Int)] rfl (Rd.lit wr 3 (0, 0) [(0 : Int)] (fun z hz => by rw [List.mem_singleton.1 hz]; decide)) (by decide) (by decide) (le_alloc HB.out.size) ?_; intro v2 w2 hown2 hgr2)
        go_roundw
        case rel => exact ⟨1, by omega, by go_num, hown2, (HB.out.alloc HB.out.size _).grown hgr2 (le_alloc HB.out.size) (fun z hz => (HRW.out.lt z hz).1)⟩
        case measure => simp [intOf]
      · obtain rfl : m = 4 := by have := HMI.out; omega
        go_wp2
        go_roundw
        case rel => exact ⟨1, by omega, by go_num, HRW.out, HB.out⟩
        case measure => simp [intOf]
      · obtain rfl : m = 5 := by have := HMI.out; omega
        go_wp2_with (at_builtin; refine wpList_append_ints rfl (.tmp 14) (.tmp 16) 37 rfl .i64 w.heap.size 3 i0 8 Try.underlying37 hi hz0 hz1 hz2 _ _ _ rfl (HRW.out.alloc _) _ 1 1 [(0 : Int)] rfl (Rd.lit wr 3 (0, 0) [(0 : Int)] (fun z hz => by rw [List.mem_singleton.1 hz]; decide)) (by decide) (by decide) (le_alloc HB.out.size) ?_; intro v2 w2 hown2 hgr2)
        go_roundw
        case rel => exact ⟨1, by omega, by go_num, hown2, (HB.out.alloc HB.out.size _).grown hgr2 (le_alloc HB.out.size) (fun z hz => (HRW.out.lt z hz).1)⟩
        case measure => simp [intOf]
      · obtain rfl : m = 6 := by have := HMI.out; omega
        go_wp2
        go_roundw
        case rel => exact ⟨1, by omega, by go_num, HRW.out, HB.out⟩
        case measure => simp [intOf]
      · obtain rfl : m = 7 := by have := HMI.out; omega
        go_wp2_with (at_builtin; refine wpList_append_ints rfl (.tmp 14) (.tmp 16) 37 rfl .i64 w.heap.size 3 i0 8 Try.underlying37 hi hz0 hz1 hz2 _ _ _ rfl (HRW.out.alloc _) _ 1 1 [(0 : Int)] rfl (Rd.lit wr 3 (0, 0) [(0 : Int)] (fun z hz => by rw [List.mem_singleton.1 hz]; decide)) (by decide) (by decide) (le_alloc HB.out.size) ?_; intro v2 w2 hown2 hgr2)
        go_roundw
        case rel => exact ⟨1, by omega, by go_num, hown2, (HB.out.alloc HB.out.size _).grown hgr2 (le_alloc HB.out.size) (fun z hz => (HRW.out.lt z hz).1)⟩
        case measure => simp [intOf]
    · rcases h8 with rfl | rfl | rfl | rfl | rfl | rfl | rfl | rfl
      · obtain rfl : m = 0 := by have := HMI.out; omega
        go_wp2
        go_roundw
        case rel => exact ⟨2, by omega, by go_num, HRW.out, HB.out⟩
        case measure => simp [intOf]
      · obtain rfl : m = 1 := by have := HMI.out; omega
        go_wp2
        go_roundw
        case rel => exact ⟨2, by omega, by go_num, HRW.out, HB.out⟩
        case measure => simp [intOf]
      · obtain rfl : m = 2 := by have := HMI.out; omega
        go_wp2_with (at_builtin; refine wpList_append_ints rfl (.tmp 14) (.tmp 16) 37 rfl .i64 w.heap.size 3 i0 8 Try.underlying37 hi hz0 hz1 hz2 _ _ _ rfl (HRW.out.alloc _) _ 1 1 [(1 : Int)] rfl (Rd.lit wr 3 (0, 0) [(1 : Int)] (fun z hz => by rw [List.mem_singleton.1 hz]; decide)) (by decide) (by decide) (le_alloc HB.out.size) ?_; intro v2 w2 hown2 hgr2)
        go_roundw
        case rel => exact ⟨2, by omega, by go_num, hown2, (HB.out.alloc HB.out.size _).grown hgr2 (le_alloc HB.out.size) (fun z hz => (HRW.out.lt z hz).1)⟩
        case measure => simp [intOf]
      · obtain rfl : m = 3 := by have := HMI.out; omega
        go_wp2_with (at_builtin; refine wpList_append_ints rfl (.tmp 14) (.tmp 16) 37 rfl .i64 w.heap.size 3 i0 8 Try.underlying37 hi hz0 hz1 hz2 _ _ _ rfl (HRW.out.alloc _) _ 1 1 [(1 : Int)] rfl (Rd.lit wr 3 (0, 0) [(1 : Int)] (fun z hz => by rw [List.mem_singleton.1 hz]; decide)) (by decide) (by decide) (le_alloc HB.out.size) ?_; intro v2 w2 hown2 hgr2)
        go_roundw
        case rel => exact ⟨2, by omega, by go_num, hown2, (HB.out.alloc HB.out.size _).grown hgr2 (le_alloc HB.out.size) (fun z hz => (HRW.out.lt z hz).1)⟩
        case measure => simp [intOf]
      · obtain rfl : m = 4 := by have := HMI.out; omega
        go_wp2
        go_roundw
        case rel => exact ⟨2, by omega, by go_num, HRW.out, HB.out⟩
        case measure => simp [intOf]
      · obtain rfl : m = 5 := by have := HMI.out; omega
        go_wp2
        go_roundw
        case rel => exact ⟨2, by omega, by go_num, HRW.out, HB.out⟩
        case measure => simp [intOf]
      · obtain rfl : m = 6 := by have := HMI.out; omega
        go_wp2_with (at_builtin; refine wpList_append_ints rfl (.tmp 14) (.tmp 16) 37 rfl .i64 w.heap.size 3 i0 8 Try.underlying37 hi hz0 hz1 hz2 _ _ _ rfl (HRW.out.alloc _) _ 1 1 [(1 : Int)] rfl (Rd.lit wr 3 (0, 0) [(1 : Int)] (fun z hz => by rw [List.mem_singleton.1 hz]; decide)) (by decide) (by decide) (le_alloc HB.out.size) ?_; intro v2 w2 hown2 hgr2)
        go_roundw
        case rel => exact ⟨2, by omega, by go_num, hown2, (HB.out.alloc HB.out.size _).grown hgr2 (le_alloc HB.out.size) (fun z hz => (HRW.out.lt z hz).1)⟩
        case measure => simp [intOf]
      · obtain rfl : m = 7 := by have := HMI.out; omega
        go_wp2_with (at_builtin; refine wpList_append_ints rfl (.tmp 14) (.tmp 16) 37 rfl .i64 w.heap.size 3 i0 8 Try.underlying37 hi hz0 hz1 hz2 _ _ _ rfl (HRW.out.alloc _) _ 1 1 [(1 : Int)] rfl (Rd.lit wr 3 (0, 0) [(1 : Int)] (fun z hz => by rw [List.mem_singleton.1 hz]; decide)) (by decide) (by decide) (le_alloc HB.out.size) ?_; intro v2 w2 hown2 hgr2)
        go_roundw
        case rel => exact ⟨2, by omega, by go_num, hown2, (HB.out.alloc HB.out.size _).grown hgr2 (le_alloc HB.out.size) (fun z hz => (HRW.out.lt z hz).1)⟩
        case measure => simp [intOf]
    · rcases h8 with rfl | rfl | rfl | rfl | rfl | rfl | rfl | rfl
      · obtain rfl : m = 0 := by have := HMI.out; omega
        go_wp2
        go_roundw
        case rel => exact ⟨3, by omega, by go_num, HRW.out, HB.out⟩
        case measure => simp [intOf]
      · obtain rfl : m = 1 := by have := HMI.out; omega
        go_wp2
        go_roundw
        case rel => exact ⟨3, by omega, by go_num, HRW.out, HB.out⟩
        case measure => simp [intOf]
      · obtain rfl : m = 2 := by have := HMI.out; omega
        go_wp2
        go_roundw
        case rel => exact ⟨3, by omega, by go_num, HRW.out, HB.out⟩
        case measure => simp [intOf]
      · obtain rfl : m = 3 := by have := HMI.out; omega
        go_wp2
        go_roundw
        case rel => exact ⟨3, by omega, by go_num, HRW.out, HB.out⟩
        case measure => simp [intOf]
      · obtain rfl : m = 4 := by have := HMI.out; omega
        go_wp2_with (at_builtin; refine wpList_append_ints rfl (.tmp 14) (.tmp 16) 37 rfl .i64 w.heap.size 3 i0 8 Try.underlying37 hi hz0 hz1 hz2 _ _ _ rfl (HRW.out.alloc _) _ 1 1 [(2 : Int)] rfl (Rd.lit wr 3 (0, 0) [(2 : Int)] (fun z hz => by rw [List.mem_singleton.1 hz]; decide)) (by decide) (by decide) (le_alloc HB.out.size) ?_; intro v2 w2 hown2 hgr2)
        go_roundw
        case rel => exact ⟨3, by omega, by go_num, hown2, (HB.out.alloc HB.out.size _).grown hgr2 (le_alloc HB.out.size) (fun z hz => (HRW.out.lt z hz).1)⟩
        case measure => simp [intOf]
      · obtain rfl : m = 5 := by have := HMI.out; omega
        go_wp2_with (at_builtin; refine wpList_append_ints rfl (.tmp 14) (.tmp 16) 37 rfl .i64 w.heap.size 3 i0 8 Try.underlying37 hi hz0 hz1 hz2 _ _ _ rfl (HRW.out.alloc _) _ 1 1 [(2 : Int)] rfl (Rd.lit wr 3 (0, 0) [(2 : Int)] (fun z hz => by rw [List.mem_singleton.1 hz]; decide)) (by decide) (by decide) (le_alloc HB.out.size) ?_; intro v2 w2 hown2 hgr2)
        go_roundw
        case rel => exact ⟨3, by omega, by go_num, hown2, (HB.out.alloc HB.out.size _).grown hgr2 (le_alloc HB.out.size) (fun z hz => (HRW.out.lt z hz).1)⟩
        case measure => simp [intOf]
      · obtain rfl : m = 6 := by have := HMI.out; omega
        go_wp2_with (at_builtin; refine wpList_append_ints rfl (.tmp 14) (.tmp 16) 37 rfl .i64 w.heap.size 3 i0 8 Try.underlying37 hi hz0 hz1 hz2 _ _ _ rfl (HRW.out.alloc _) _ 1 1 [(2 : Int)] rfl (Rd.lit wr 3 (0, 0) [(2 : Int)] (fun z hz => by rw [List.mem_singleton.1 hz]; decide)) (by decide) (by decide) (le_alloc HB.out.size) ?_; intro v2 w2 hown2 hgr2)
        go_roundw
        case rel => exact ⟨3, by omega, by go_num, hown2, (HB.out.alloc HB.out.size _).grown hgr2 (le_alloc HB.out.size) (fun z hz => (HRW.out.lt z hz).1)⟩
        case measure => simp [intOf]
      · obtain rfl : m = 7 := by have := HMI.out; omega
        go_wp2_with (at_builtin; refine wpList_append_ints rfl (.tmp 14) (.tmp 16) 37 rfl .i64 w.heap.size 3 i0 8 Try.underlying37 hi hz0 hz1 hz2 _ _ _ rfl (HRW.out.alloc _) _ 1 1 [(2 : Int)] rfl (Rd.lit wr 3 (0, 0) [(2 : Int)] (fun z hz => by rw [List.mem_singleton.1 hz]; decide)) (by decide) (by decide) (le_alloc HB.out.size) ?_; intro v2 w2 hown2 hgr2)
        go_roundw
        case rel => exact ⟨3, by omega, by go_num, hown2, (HB.out.alloc HB.out.size _).grown hgr2 (le_alloc HB.out.size) (fun z hz => (HRW.out.lt z hz).1)⟩
        case measure => simp [intOf]
    · clear h8
      go_wp2
      go_ret
      obtain ⟨A, c, e, h1, h2, -, h4⟩ := own_slice HRW.out
      subst e
      exact ⟨A, c, rfl, Rd.own HRW.out (ids_wf n HN.out), h1, h2, HB.out, fun a ha => (h4 a ha).1⟩
theorem lawIds (n : Nat) (hn : n < 8) (w : World) : Calls Try.prog 23 #[.int .u16 (n : Int)] w (GotIds w (idsM n)) := lawIdsI n n rfl hn w
end Go.Proofs.Ytgfifjcecpllbaa.Trace

namespace Go.Proofs.Ytgfifjcecpllbaa.Skips
open Go

section
variable {P : Program} {ops : Array Oper} {Q : Exit → Act → World → Prop} {md : Region.Mode} {S : World → Prop}

/-- May these be passed, one behind the other? -/
def skipsOk (md : Region.Mode) (ops : Array Oper) : List Nat → Array Bool → Act → Bool
  | [], _, _ => true
  | i :: is, listed, a => match ops[i]? with
    | none => false
    | some o => Region.free md ops listed i && (Region.ready md ops listed).contains i && !(Region.wanted o (yielded ops a.tmps)) && skipsOk md ops is (listed.setIfInBounds i true) (a.put o.dst undef)
/-- What is listed then. -/
def skipListed : List Nat → Array Bool → Array Bool
  | [], listed => listed
  | i :: is, listed => skipListed is (listed.setIfInBounds i true)
/-- The state then. -/
def skipAct (ops : Array Oper) : List Nat → Act → Act
  | [], a => a
  | i :: is, a => match ops[i]? with
    | none => a
    | some o => skipAct ops is (a.put o.dst undef)

theorem skips {w : World} (hs : Region.noSelect ops = true) (hQ : ∀ (d : Tmp) (v : Value) c a w, Q (.panic c) (a.put (some d) v) w → Q (.panic c) a w) (hS : S w) :
    ∀ (is : List Nat) (n fuel : Nat) (listed : Array Bool) (a : Act), n = fuel + is.length → skipsOk md ops is listed a = true →
      wpAnyH P md ops Q S fuel (skipListed is listed) (skipAct ops is a) w → wpAnyH P md ops Q S n listed a w := by
  intro is
  induction is with
  | nil => intro n fuel listed a hn _ h; subst hn; exact h
  | cons i is ih =>
    intro n fuel listed a hn hk h
    subst hn
    unfold skipsOk at hk
    unfold skipAct at h
    cases hi : ops[i]? with
    | none => rw [hi] at hk; cases hk
    | some o =>
      rw [hi] at hk h
      simp only [Bool.and_eq_true, Bool.not_eq_true'] at hk
      obtain ⟨⟨⟨h1, h2⟩, h3⟩, h4⟩ := hk
      exact wpAnyH_take (fuel := fuel + is.length) hi hs h1 h2 (by cases o.dst with | none => exact fun _ _ _ h => h | some d => exact hQ d _) (Or.inr ⟨h3, rfl⟩) hS (ih _ fuel _ _ rfl h4 h)
end
end Go.Proofs.Ytgfifjcecpllbaa.Skips
