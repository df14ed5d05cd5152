/-
  The law's Spoil: bytes with one of them another, some cut off, some besides. By an AI agent.
  The walk of the law's ids (stage 8). By an AI agent.
-/
import Derived.Test.YtbbjoffknoaoiaaGScanAny21
import Derived.Test.YtbbjoffknoaoiaaGScanAny16
import Derived.Test.YtbbjoffknoaoiaaGScanAny8
namespace Go.Proofs.Ytbbjoffknoaoiaa.Log
open Go.RowKit Go.Proofs.Ytbbjoffknoaoiaa.Ints Go.Proofs.Ytbbjoffknoaoiaa.Mem Go.Proofs.Ytbbjoffknoaoiaa.SumMath Go.Proofs.Ytbbjoffknoaoiaa.SumWalks Go.Proofs.Ytbbjoffknoaoiaa.Trace Go.Proofs.Ytbbjoffknoaoiaa.Record

theorem row_take {w : World} {base : Nat} {e : TypeId} {size : Nat} {A : Option Addr} {n c k : Nat} {xs ys : List Value} (h : w.ownsRow base e size (.slice A n c) n xs) (hk : k ≤ n) (hy : ys = xs.take (k * size)) : w.ownsRow base e size (.slice A k c) k ys := by
  subst hy
  obtain ⟨h1, h2⟩ := h
  have hle : k * size ≤ n * size := Nat.mul_le_mul_right _ hk
  refine ⟨by rw [List.length_take, h1]; omega, ?_⟩
  rcases h2 with ⟨h3, h4⟩ | ⟨g, cap, cur, h3, h4, h5, h6, h7, h8, h9⟩
  · have h3 : (A = none ∧ n = 0 ∧ c = 0) := by injection h3 with a b d; exact ⟨a, b, d⟩
    obtain ⟨rfl, rfl, rfl⟩ := h3
    have : k = 0 := by omega
    subst this
    exact Or.inl ⟨rfl, rfl⟩
  · injection h3 with a b d
    subst a; subst d
    refine Or.inr ⟨g, c, cur, rfl, h4, h5, by omega, h7, h8, ?_⟩
    rw [← h9, List.take_take, Nat.min_eq_left hle]
/-- Bytes with one of them another, some cut off. -/
def cutS (b : List Int) (p q x : Nat) : List Int :=
  if b.length = 0 then [] else (b.set (p % b.length) (bits .xor .u8 (b[p % b.length]?.getD 0) (x : Int))).take (b.length - q % b.length)
set_option maxHeartbeats 4000000 in
set_option maxRecDepth 100000 in
theorem lawSpoil (A : Option Addr) (n c : Nat) (zs : List Int) (p q x : Nat) (R : Option Addr) (l d : Nat) (rs : List Int) (w : World) (hp : p ≤ 65535) (hq : q ≤ 65535) (hx : x ≤ 255) (hnc : n ≤ c) (hn : n ≤ 1099511627776) (h : Rd .u8 w A n zs) (hl : l ≤ 140737488351232) (hR : Rd .u8 w R l rs) :
    Calls Try.prog 10 #[.slice A n c, .int .u16 (p : Int), .int .u16 (q : Int), .int .u8 (x : Int), .slice R l d] w (GotBytes w (cutS zs p q x ++ rs)) := by
  have q63 : maxLen = 9223372036854775807 := rfl
  obtain ⟨i0, hi, hz0, hz1, hz2⟩ := info_parts info5'
  obtain ⟨hlen, -⟩ := id h
  obtain ⟨hrl, -⟩ := id hR
  have HZ := Lib.hid h
  have HR := Lib.hid hR
  have HW := Lib.hid h.all
  obtain ⟨cs, hcs⟩ : ∃ cs, cutS zs p q x = cs := ⟨_, rfl⟩
  rw [hcs]
  by_cases h0 : n = 0
  · subst h0
    obtain rfl : zs = [] := List.eq_nil_of_length_eq_zero hlen
    obtain rfl : cs = [] := by rw [← hcs]; rfl
    clear h hR hcs
    go_enter Try.func10, Try.ntmps10
    go_wp2_with (first
      | (at_builtin; refine wpList_append_ints_wide rfl _ _ 22 rfl .u8 w.heap.size 5 i0 1 Try.underlying22 hi hz0 hz1 hz2 _ _ _ rfl HO1.out _ _ _ rs rfl HR1.out (by omega) (by omega) hs1 ?_; intro v2 w2 hown2 hgr2; have HO2 := Lib.hid hown2; have HB2 := Lib.hid (HB1.out.grown hgr2 hs1 (fun q hq => (HO1.out.lt q hq).1)); clear hown2 hgr2)
      | (at_builtin; refine wpList_append_ints_wide rfl _ _ 22 rfl .u8 w.heap.size 5 i0 1 Try.underlying22 hi hz0 hz1 hz2 _ _ _ rfl (own_lit w w.heap.size 5 .u8 [] 0 rfl (by decide) (Nat.le_refl _)) _ _ _ [] rfl (HZ.out.alloc _) (by omega) (by omega) (le_alloc (Nat.le_refl _)) ?_; intro v1 w1 hown1 hgr1; have hB1 := ((Below.refl w.heap.size w).alloc (Nat.le_refl _) (.cells #[] 5)).grown hgr1 (le_alloc (Nat.le_refl _)) (fun b hb => by injection hb with hb; exact Nat.le_of_eq hb); obtain ⟨A1, c1, rfl, hc1, hm1, -, -⟩ := own_slice hown1; have hs1 := hB1.size; have HO1 := Lib.hid hown1; have HR1 := Lib.hid (HR.out.below hB1); have HB1 := Lib.hid hB1; clear hown1 hgr1 hB1))
    go_ret
    exact ⟨_, rfl, row_more (by omega) rfl HO2.out, HB2.out⟩
  · obtain ⟨i, hpi, hil⟩ : ∃ i : Nat, (p : Int) % (n : Int) = (i : Int) ∧ i < n := ⟨p % n, by rw [Int.natCast_emod], Nat.mod_lt _ (by omega)⟩
    obtain ⟨j, hqj, hjl⟩ : ∃ j : Nat, (q : Int) % (n : Int) = (j : Int) ∧ j < n := ⟨q % n, by rw [Int.natCast_emod], Nat.mod_lt _ (by omega)⟩
    obtain ⟨k, hk⟩ : ∃ k : Nat, n - j = k := ⟨_, rfl⟩
    have hsub : (n : Int) - (j : Int) = (k : Int) := by omega
    obtain ⟨z, hz⟩ : ∃ z, zs[i]?.getD 0 = z := ⟨_, rfl⟩
    have hbd : 0 ≤ z ∧ z ≤ 255 := by rw [← hz]; exact h.u8 i hil
    have hxo := (xor_u8 z (x : Int) hbd ⟨by omega, by omega⟩).1
    have hcs2 : cs = (zs.set i (bits .xor .u8 z (x : Int))).take k := by
      have e1 : p % n = i := by have : ((p % n : Nat) : Int) = (i : Int) := by rw [Int.natCast_emod]; exact hpi
                                omega
      have e2 : q % n = j := by have : ((q % n : Nat) : Int) = (j : Int) := by rw [Int.natCast_emod]; exact hqj
                                omega
      rw [← hcs]
      unfold cutS
      rw [hlen, if_neg h0, e1, e2, hk, hz]
    have HCS := Lib.hid hcs2
    have HX := Lib.hid hxo
    have HK := Lib.hid hk
    have HZI := Lib.hid hz
    obtain ⟨z0, z1⟩ := hbd
    have hn0 : ((n : Int) == 0) = false := by simp; omega
    have hn1 : (i : Int) < (n : Int) := by omega
    have hn2 : ¬ n = 0 := by omega
    have hn3 : (0 : Int) < (n : Int) := by omega
    have hkn : k ≤ n := by omega
    have hcl : cs.length = k := by rw [hcs2, List.length_take, List.length_set]; omega
    have HCL := Lib.hid hcl
    clear h hR hcs hcs2 hxo hk hz hcl
    go_enter Try.func10, Try.ntmps10
    go_wp2_with (first
      | (at_builtin; refine wpList_append_ints_wide rfl _ _ 22 rfl .u8 w.heap.size 5 i0 1 Try.underlying22 hi hz0 hz1 hz2 _ _ _ rfl (own_lit w w.heap.size 5 .u8 [] 0 rfl (by decide) (Nat.le_refl _)) _ _ _ zs rfl (HZ.out.alloc _) (by omega) (by omega) (le_alloc (Nat.le_refl _)) ?_; intro v1 w1 hown1 hgr1; have hB1 := ((Below.refl w.heap.size w).alloc (Nat.le_refl _) (.cells #[] 5)).grown hgr1 (le_alloc (Nat.le_refl _)) (fun b hb => by injection hb with hb; exact Nat.le_of_eq hb); have hown2 := row_more (m := n) (ys := zs) (by omega) (List.nil_append zs) hown1; obtain ⟨g, c1, rfl, hg, hgl, hc1, hm1⟩ := own_form hown2 (by omega); have hcell := own_cell hown2 hil; have hfz := hown2.frozenAt i; rw [HZI.out] at hcell; have HO1 := Lib.hid hown2; have HB1 := Lib.hid hB1; clear hown1 hgr1 hB1 hown2)
      | (at_builtin; refine wpList_append_ints_wide rfl _ _ 22 rfl .u8 w.heap.size 5 i0 1 Try.underlying22 hi hz0 hz1 hz2 _ _ _ rfl (row_take (ys := cs.map (Value.int .u8)) (own_set HO1.out i (bits .xor .u8 z (x : Int))) hkn (by rw [HCS.out, List.map_take, Nat.mul_one])) _ _ _ rs rfl (HR.out.below (HB1.out.setCell hg _)) (by omega) (by omega) (HB1.out.setCell hg _).size ?_; intro v2 w2 hown2 hgr2; have HO2 := Lib.hid hown2; have HB2 := Lib.hid ((HB1.out.setCell hg _).grown hgr2 (HB1.out.setCell hg _).size (fun q hq => by injection hq with hq; rw [← hq]; exact hg)); clear hown2 hgr2))
    go_ret
    exact ⟨_, rfl, row_more (by rw [List.length_append, HCL.out, hrl]) rfl HO2.out, HB2.out⟩
end Go.Proofs.Ytbbjoffknoaoiaa.Log

namespace Go.Proofs.Ytbbjoffknoaoiaa.Trace
open Go.RowKit Go.Proofs.Ytbbjoffknoaoiaa.Ints Go.Proofs.Ytbbjoffknoaoiaa.Mem

/-- The ids of three names, by bits: those below k. -/
def idsUp (n k : Nat) : List Int := ((List.range k).filter fun i => n.testBit i).map Int.ofNat
def idsM (n : Nat) : List Int := idsUp n 3
theorem ids_ok : ∀ n, n < 8 → idsOk (idsM n) 3 = true := by decide +kernel
theorem ids_len : ∀ n, n < 8 → (idsM n).length ≤ 3 := by decide +kernel
theorem ids_wf : ∀ n, n < 8 → ∀ z ∈ idsM n, (Lit.int .i64 z).wf = true := by decide +kernel
theorem infoInt : (Try.prog.info? 3).map (fun i => (i.zero, i.size, i.bytes)) = some (some (.int .i64 0), 1, 8) := by kernel_rfl
/-- What a call that hands back ids of its own leaves. -/
def GotIds (w : World) (l : List Int) (e : Ending) (w' : World) : Prop :=
  ∃ A c, e = .returned (.slice A l.length c) ∧ Rd .i64 w' A l.length l ∧ l.length ≤ c ∧ c ≤ maxLen ∧ Below w.heap.size w w' ∧ ∀ a, A = some a → w.heap.size ≤ a.block

set_option maxHeartbeats 8000000 in
set_option maxRecDepth 100000 in
theorem lawIdsI (n : Nat) (m : Int) (hm : m = (n : Int)) (hn : n < 8) (w : World) : Calls Try.prog 27 #[.int .u16 m] w (GotIds w (idsM n)) := by
  obtain ⟨i0, hi, hz0, hz1, hz2⟩ := info_parts infoInt
  have hni : m < 8 := by omega
  have hmi : 0 ≤ m := by omega
  have HN := Lib.hid hn
  have HMI := Lib.hid hm
  clear hn hm
  go_enter Try.func27, Try.ntmps27
  go_wp2
  go_loopw [3, 5] (fun v i wr => ∃ k : Nat, k ≤ 3 ∧ i = .int .i64 k ∧ wr.ownsRow w.heap.size 3 1 v (idsUp n k).length ((idsUp n k).map (Value.int .i64)) ∧ Below w.heap.size w wr) (fun _ i _ => 3 - (intOf i).toNat)
  case atStart => exact ⟨0, Nat.zero_le _, rfl, World.ownsRow_nil _ _ _ _, Below.refl _ _⟩
  case round =>
    obtain ⟨k, hk, rfl, hrow, hB⟩ := hrel
    have HRW := Lib.hid hrow
    have HB := Lib.hid hB
    clear hrow hB
    have h8 : n = 0 ∨ n = 1 ∨ n = 2 ∨ n = 3 ∨ n = 4 ∨ n = 5 ∨ n = 6 ∨ n = 7 := by have := HN.out; omega
    have h3 : k = 0 ∨ k = 1 ∨ k = 2 ∨ k = 3 := by omega
    rcases h3 with rfl | rfl | rfl | rfl
    · rcases h8 with rfl | rfl | rfl | rfl | rfl | rfl | rfl | rfl
      · obtain rfl : m = 0 := by have := HMI.out; omega
        go_wp2
        go_roundw
        case rel => exact ⟨1, by omega, by go_num, HRW.out, HB.out⟩
        case measure => simp [intOf]
      · obtain rfl : m = 1 := by have := HMI.out; omega
        go_wp2_with (at_builtin; refine wpList_append_ints rfl (.tmp 14) (.tmp 16) 23 rfl .i64 w.heap.size 3 i0 8 Try.underlying23 hi hz0 hz1 hz2 _ _ _ rfl (HRW.out.alloc _) _ 1 1 [(0 : Int)] rfl (Rd.lit wr 3 (0, 0) [(0 : Int)] (fun z hz => by rw [List.mem_singleton.1 hz]; decide)) (by decide) (by decide) (le_alloc HB.out.size) ?_; intro v2 w2 hown2 hgr2)
        go_roundw
        case rel => exact ⟨1, by omega, by go_num, hown2, (HB.out.alloc HB.out.size _).grown hgr2 (le_alloc HB.out.size) (fun z hz => (HRW.out.lt z hz).1)⟩
        case measure => simp [intOf]
      · obtain rfl : m = 2 := by have := HMI.out; omega
        go_wp2
        go_roundw
        case rel => exact ⟨1, by omega, by go_num, HRW.out, HB.out⟩
        case measure => simp [intOf]
      · obtain rfl : m = 3 := by have := HMI.out; omega
        go_wp2_with (at_builtin; refine wpList_append_ints rfl (.tmp 14) (.tmp 16) 23 rfl .i64 w.heap.size 3 i0 8 Try.underlying23 hi hz0 hz1 hz2 _ _ _ rfl (HRW.out.alloc _) _ 1 1 [(0 : Int)] rfl (Rd.lit wr 3 (0, 0) [(0 : Int)] (fun z hz => by rw [List.mem_singleton.1 hz]; decide)) (by decide) (by decide) (le_alloc HB.out.size) ?_; intro v2 w2 hown2 hgr2)
        go_roundw
        case rel => exact ⟨1, by omega, by go_num, hown2, (HB.out.alloc HB.out.size _).grown hgr2 (le_alloc HB.out.size) (fun z hz => (HRW.out.lt z hz).1)⟩
        case measure => simp [intOf]
      · obtain rfl : m = 4 := by have := HMI.out; omega
        go_wp2
        go_roundw
        case rel => exact ⟨1, by omega, by go_num, HRW.out, HB.out⟩
        case measure => simp [intOf]
      · obtain rfl : m = 5 := by have := HMI.out; omega
        go_wp2_with (at_builtin; refine wpList_append_ints rfl (.tmp 14) (.tmp 16) 23 rfl .i64 w.heap.size 3 i0 8 Try.underlying23 hi hz0 hz1 hz2 _ _ _ rfl (HRW.out.alloc _) _ 1 1 [(0 : Int)] rfl (Rd.lit wr 3 (0, 0) [(0 : Int)] (fun z hz => by rw [List.mem_singleton.1 hz]; decide)) (by decide) (by decide) (le_alloc HB.out.size) ?_; intro v2 w2 hown2 hgr2)
        go_roundw
        case rel => exact ⟨1, by omega, by go_num, hown2, (HB.out.alloc HB.out.size _).grown hgr2 (le_alloc HB.out.size) (fun z hz => (HRW.out.lt z hz).1)⟩
        case measure => simp [intOf]
      · obtain rfl : m = 6 := by have := HMI.out; omega
        go_wp2
        go_roundw
        case rel => exact ⟨1, by omega, by go_num, HRW.out, HB.out⟩
        case measure => simp [intOf]
      · obtain rfl : m = 7 := by have := HMI.out; omega
        go_wp2_with (at_builtin; refine wpList_append_ints rfl (.tmp 14) (.tmp 16) 23 rfl .i64 w.heap.size 3 i0 8 Try.underlying23 hi hz0 hz1 hz2 _ _ _ rfl (HRW.out.alloc _) _ 1 1 [(0 : Int)] rfl (Rd.lit wr 3 (0, 0) [(0 : Int)] (fun z hz => by rw [List.mem_singleton.1 hz]; decide)) (by decide) (by decide) (le_alloc HB.out.size) ?_; intro v2 w2 hown2 hgr2)
        go_roundw
        case rel => exact ⟨1, by omega, by go_num, hown2, (HB.out.alloc HB.out.size _).grown hgr2 (le_alloc HB.out.size) (fun z hz => (HRW.out.lt z hz).1)⟩
        case measure => simp [intOf]
    · rcases h8 with rfl | rfl | rfl | rfl | rfl | rfl | rfl | rfl
      · obtain rfl : m = 0 := by have := HMI.out; omega
        go_wp2
        go_roundw
        case rel => exact ⟨2, by omega, by go_num, HRW.out, HB.out⟩
        case measure => simp [intOf]
      · obtain rfl : m = 1 := by have := HMI.out; omega
        go_wp2
        go_roundw
        case rel => exact ⟨2, by omega, by go_num, HRW.out, HB.out⟩
        case measure => simp [intOf]
      · obtain rfl : m = 2 := by have := HMI.out; omega
        go_wp2_with (at_builtin; refine wpList_append_ints rfl (.tmp 14) (.tmp 16) 23 rfl .i64 w.heap.size 3 i0 8 Try.underlying23 hi hz0 hz1 hz2 _ _ _ rfl (HRW.out.alloc _) _ 1 1 [(1 : Int)] rfl (Rd.lit wr 3 (0, 0) [(1 : Int)] (fun z hz => by rw [List.mem_singleton.1 hz]; decide)) (by decide) (by decide) (le_alloc HB.out.size) ?_; intro v2 w2 hown2 hgr2)
        go_roundw
        case rel => exact ⟨2, by omega, by go_num, hown2, (HB.out.alloc HB.out.size _).grown hgr2 (le_alloc HB.out.size) (fun z hz => (HRW.out.lt z hz).1)⟩
        case measure => simp [intOf]
      · obtain rfl : m = 3 := by have := HMI.out; omega
        go_wp2_with (at_builtin; refine wpList_append_ints rfl (.tmp 14) (.tmp 16) 23 rfl .i64 w.heap.size 3 i0 8 Try.underlying23 hi hz0 hz1 hz2 _ _ _ rfl (HRW.out.alloc _) _ 1 1 [(1 : Int)] rfl (Rd.lit wr 3 (0, 0) [(1 : Int)] (fun z hz => by rw [List.mem_singleton.1 hz]; decide)) (by decide) (by decide) (le_alloc HB.out.size) ?_; intro v2 w2 hown2 hgr2)
        go_roundw
        case rel => exact ⟨2, by omega, by go_num, hown2, (HB.out.alloc HB.out.size _).grown hgr2 (le_alloc HB.out.size) (fun z hz => (HRW.out.lt z hz).1)⟩
        case measure => simp [intOf]
      · obtain rfl : m = 4 := by have := HMI.out; omega
        go_wp2
        go_roundw
        case rel => exact ⟨2, by omega, by go_num, HRW.out, HB.out⟩
        case measure => simp [intOf]
      · obtain rfl : m = 5 := by have := HMI.out; omega
        go_wp2
        go_roundw
        case rel => exact ⟨2, by omega, by go_num, HRW.out, HB.out⟩
        case measure => simp [intOf]
      · obtain rfl : m = 6 := by have := HMI.out; omega
        go_wp2_with (at_builtin; refine wpList_append_ints rfl (.tmp 14) (.tmp 16) 23 rfl .i64 w.heap.size 3 i0 8 Try.underlying23 hi hz0 hz1 hz2 _ _ _ rfl (HRW.out.alloc _) _ 1 1 [(1 : Int)] rfl (Rd.lit wr 3 (0, 0) [(1 : Int)] (fun z hz => by rw [List.mem_singleton.1 hz]; decide)) (by decide) (by decide) (le_alloc HB.out.size) ?_; intro v2 w2 hown2 hgr2)
        go_roundw
        case rel => exact ⟨2, by omega, by go_num, hown2, (HB.out.alloc HB.out.size _).grown hgr2 (le_alloc HB.out.size) (fun z hz => (HRW.out.lt z hz).1)⟩
        case measure => simp [intOf]
      · obtain rfl : m = 7 := by have := HMI.out; omega
        go_wp2_with (at_builtin; refine wpList_append_ints rfl (.tmp 14) (.tmp 16) 23 rfl .i64 w.heap.size 3 i0 8 Try.underlying23 hi hz0 hz1 hz2 _ _ _ rfl (HRW.out.alloc _) _ 1 1 [(1 : Int)] rfl (Rd.lit wr 3 (0, 0) [(1 : Int)] (fun z hz => by rw [List.mem_singleton.1 hz]; decide)) (by decide) (by decide) (le_alloc HB.out.size) ?_; intro v2 w2 hown2 hgr2)
        go_roundw
        case rel => exact ⟨2, by omega, by go_num, hown2, (HB.out.alloc HB.out.size _).grown hgr2 (le_alloc HB.out.size) (fun z hz => (HRW.out.lt z hz).1)⟩
        case measure => simp [intOf]
    · rcases h8 with rfl | rfl | rfl | rfl | rfl | rfl | rfl | rfl
      · obtain rfl : m = 0 := by have := HMI.out; omega
        go_wp2
        go_roundw
        case rel => exact ⟨3, by omega, by go_num, HRW.out, HB.out⟩
        case measure => simp [intOf]
      · obtain rfl : m = 1 := by have := HMI.out; omega
        go_wp2
        go_roundw
        case rel => exact ⟨3, by omega, by go_num, HRW.out, HB.out⟩
        case measure => simp [intOf]
      · obtain rfl : m = 2 := by have := HMI.out; omega
        go_wp2
        go_roundw
        case rel => exact ⟨3, by omega, by go_num, HRW.out, HB.out⟩
        case measure => simp [intOf]
      · obtain rfl : m = 3 := by have := HMI.out; omega
        go_wp2
        go_roundw
        case rel => exact ⟨3, by omega, by go_num, HRW.out, HB.out⟩
        case measure => simp [intOf]
      · obtain rfl : m = 4 := by have := HMI.out; omega
        go_wp2_with (at_builtin; refine wpList_append_ints rfl (.tmp 14) (.tmp 16) 23 rfl .i64 w.heap.size 3 i0 8 Try.underlying23 hi hz0 hz1 hz2 _ _ _ rfl (HRW.out.alloc _) _ 1 1 [(2 : Int)] rfl (Rd.lit wr 3 (0, 0) [(2 : Int)] (fun z hz => by rw [List.mem_singleton.1 hz]; decide)) (by decide) (by decide) (le_alloc HB.out.size) ?_; intro v2 w2 hown2 hgr2)
        go_roundw
        case rel => exact ⟨3, by omega, by go_num, hown2, (HB.out.alloc HB.out.size _).grown hgr2 (le_alloc HB.out.size) (fun z hz => (HRW.out.lt z hz).1)⟩
        case measure => simp [intOf]
      · obtain rfl : m = 5 := by have := HMI.out; omega
        go_wp2_with (at_builtin; refine wpList_append_ints rfl (.tmp 14) (.tmp 16) 23 rfl .i64 w.heap.size 3 i0 8 Try.underlying23 hi hz0 hz1 hz2 _ _ _ rfl (HRW.out.alloc _) _ 1 1 [(2 : Int)] rfl (Rd.lit wr 3 (0, 0) [(2 : Int)] (fun z hz => by rw [List.mem_singleton.1 hz]; decide)) (by decide) (by decide) (le_alloc HB.out.size) ?_; intro v2 w2 hown2 hgr2)
        go_roundw
        case rel => exact ⟨3, by omega, by go_num, hown2, (HB.out.alloc HB.out.size _).grown hgr2 (le_alloc HB.out.size) (fun z hz => (HRW.out.lt z hz).1)⟩
        case measure => simp [intOf]
      · obtain rfl : m = 6 := by have := HMI.out; omega
        go_wp2_with (at_builtin; refine wpList_append_ints rfl (.tmp 14) (.tmp 16) 23 rfl .i64 w.heap.size 3 i0 8 Try.underlying23 hi hz0 hz1 hz2 _ _ _ rfl (HRW.out.alloc _) _ 1 1 [(2 : Int)] rfl (Rd.lit wr 3 (0, 0) [(2 : Int)] (fun z hz => by rw [List.mem_singleton.1 hz]; decide)) (by decide) (by decide) (le_alloc HB.out.size) ?_; intro v2 w2 hown2 hgr2)
        go_roundw
        case rel => exact ⟨3, by omega, by go_num, hown2, (HB.out.alloc HB.out.size _).grown hgr2 (le_alloc HB.out.size) (fun z hz => (HRW.out.lt z hz).1)⟩
        case measure => simp [intOf]
      · obtain rfl : m = 7 := by have := HMI.out; omega
        go_wp2_with (at_builtin; refine wpList_append_ints rfl (.tmp 14) (.tmp 16) 23 rfl .i64 w.heap.size 3 i0 8 Try.underlying23 hi hz0 hz1 hz2 _ _ _ rfl (HRW.out.alloc _) _ 1 1 [(2 : Int)] rfl (Rd.lit wr 3 (0, 0) [(2 : Int)] (fun z hz => by rw [List.mem_singleton.1 hz]; decide)) (by decide) (by decide) (le_alloc HB.out.size) ?_; intro v2 w2 hown2 hgr2)
        go_roundw
        case rel => exact ⟨3, by omega, by go_num, hown2, (HB.out.alloc HB.out.size _).grown hgr2 (le_alloc HB.out.size) (fun z hz => (HRW.out.lt z hz).1)⟩
        case measure => simp [intOf]
    · clear h8
      go_wp2
      go_ret
      obtain ⟨A, c, e, h1, h2, -, h4⟩ := own_slice HRW.out
      subst e
      exact ⟨A, c, rfl, Rd.own HRW.out (ids_wf n HN.out), h1, h2, HB.out, fun a ha => (h4 a ha).1⟩
theorem lawIds (n : Nat) (hn : n < 8) (w : World) : Calls Try.prog 27 #[.int .u16 (n : Int)] w (GotIds w (idsM n)) := lawIdsI n n rfl hn w
end Go.Proofs.Ytbbjoffknoaoiaa.Trace
