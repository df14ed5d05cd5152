/-
  The walks of the landed package record: summed, Put. By an AI agent.
-/
import Derived.Test.YtpcahfjejbiocaaRecordWrite
import Derived.Test.YtpcahfjejbiocaaRecordConcat
import Derived.Test.YtpcahfjejbiocaaEqInts
namespace Go.Proofs.Ytpcahfjejbiocaa.Record
open Go.RowKit Go.Proofs.Ytpcahfjejbiocaa.Ints Go.Proofs.Ytpcahfjejbiocaa.Mem Go.Proofs.Ytpcahfjejbiocaa.SumMath Go.Proofs.Ytpcahfjejbiocaa.SumWalks Go.Proofs.Ytpcahfjejbiocaa.Trace

/-- An event's box. -/
def boxE (w : World) (x : Ev) (K : Option Addr) (c : Nat) : World := w.alloc (.cells #[.int .u64 x.time, .slice K x.ids.length c] 26)
theorem boxE_at {w W : World} {x : Ev} {K : Option Addr} {c : Nat} (hb : Below (w.heap.size + 1) (boxE w x K c) W) :
    W.cell? ⟨w.heap.size, 0, none⟩ = some (.int .u64 x.time) ∧ W.cell? ⟨w.heap.size, 1, none⟩ = some (.slice K x.ids.length c) :=
  ⟨(hb.cell (p := ⟨w.heap.size, 0, none⟩) (Nat.lt_succ_self _)).trans (box_cell 0 _ rfl), (hb.cell (p := ⟨w.heap.size, 1, none⟩) (Nat.lt_succ_self _)).trans (box_cell 1 _ rfl)⟩
theorem boxE_below {w W : World} {x : Ev} {K : Option Addr} {c : Nat} (hb : Below (w.heap.size + 1) (boxE w x K c) W) : Below w.heap.size w W :=
  ((Below.refl _ w).alloc (Nat.le_refl _) _).trans (hb.mono (Nat.le_succ _))
theorem boxE_size (w : World) (x : Ev) (K : Option Addr) (c : Nat) : (boxE w x K c).heap.size = w.heap.size + 1 := by simp [boxE]
theorem getD_opt (l : List Int) (k : Nat) : l.getD k 0 = l[k]?.getD 0 := by simp [List.getD]

set_option maxHeartbeats 4000000 in
set_option maxRecDepth 100000 in
theorem landSummed (x : Ev) (K : Option Addr) (c : Nat) (w : World) (hx : EvOk w x K c) (hids : idsOk x.ids 64 = true) :
    Calls Try.prog 21 #[.agg #[.int .u64 x.time, .slice K x.ids.length c]] w (Made w (10 + x.ids.length) (bodyR x)) := by
  obtain ⟨i0, hi, hz0, hz1, hz2⟩ := info_parts info5'
  obtain ⟨ht0, ht1⟩ := wf_u64 hx.1
  have hcnt := ids_count hids
  have HX := Lib.hid hx
  have HI := Lib.hid (ids_bytes hids)
  obtain ⟨n, hn⟩ : ∃ n, x.ids.length = n := ⟨_, rfl⟩
  have HN := Lib.hid hn
  obtain ⟨b0, b1⟩ := boxE_at (Below.refl (w.heap.size + 1) (boxE w x K c))
  have hW : w.alloc (.cells #[.int .u64 x.time, .slice K x.ids.length c] 26) = boxE w x K c := rfl
  have hs1 := boxE_size w x K c
  rw [hn] at hW b1 hcnt ⊢
  have hn64 : n ≤ 64 := by omega
  have c1 : (8 : Int) + (n : Int) ≤ 72 := by omega
  obtain ⟨W1, hW1⟩ : ∃ W1, boxE w x K c = W1 := ⟨_, rfl⟩
  have HW1 := Lib.hid hW1
  rw [hW1] at hW hs1 b0 b1
  have f1 := landWrite2 (.slice none 0 0) 0 [] (8 + (n : Int)) (w.heap.size + 1) W1 (by omega) (by omega) (World.ownsRow_nil _ _ _ _) (by omega) (by omega)
  have F1 := Lib.hid f1
  clear f1 hx hids hW1 hn hcnt
  go_enter Try.func21, Try.ntmps21
  go_wp2_with fail
  clear hW
  refine F1.out.mono ?_
  rintro e w1 ⟨v1, rfl, hown1, hB1⟩
  have d0 := (hB1.cell (p := ⟨w.heap.size, 0, none⟩) (Nat.lt_succ_self _)).trans b0
  have d1 := (hB1.cell (p := ⟨w.heap.size, 1, none⟩) (Nat.lt_succ_self _)).trans b1
  have hz1' := hB1.size
  clear b0 b1
  have F2 := Lib.hid (landWrite8 v1 2 (be2 (8 + (n : Int))) x.time (w.heap.size + 1) w1 ht0 ht1 (by simpa using hown1) (by omega) (by omega))
  go_wp2_with fail
  refine F2.out.mono ?_
  rintro e w2 ⟨v2, rfl, hown2, hB2⟩
  have e0 := (hB2.cell (p := ⟨w.heap.size, 0, none⟩) (Nat.lt_succ_self _)).trans d0
  have e1 := (hB2.cell (p := ⟨w.heap.size, 1, none⟩) (Nat.lt_succ_self _)).trans d1
  have HB12 := Lib.hid (hB1.trans hB2)
  clear d0 d1 F1 F2 hown1 hB1
  go_wp2_with fail
  go_loopw [3, 19] (fun v i wr => ∃ k : Nat, k ≤ n ∧ i = .int .i64 k ∧ wr.ownsRow (w.heap.size + 1) 5 1 v (10 + k) ((be2 (8 + (n : Int)) ++ be8 x.time ++ x.ids.take k).map (Value.int .u8)) ∧ Below (w.heap.size + 1) W1 wr) (fun _ i _ => n - (intOf i).toNat)
  case atStart => exact ⟨0, Nat.zero_le _, rfl, by simpa using hown2, HB12.out⟩
  case round =>
    obtain ⟨k, hk, rfl, hrow, hBr⟩ := hrel
    have hBs : w.heap.size + 1 ≤ wr.heap.size := by have := hBr.size; omega
    have hbw : Below w.heap.size w wr := boxE_below (by rw [HW1.out]; exact hBr)
    clear e0 e1 hown2 hB2
    by_cases hkn : k < n
    · obtain ⟨b, off, e, hc⟩ := (HX.out.2.1.below hbw).cell (by rw [HN.out]; omega)
      have x0 := hc k (by rw [HN.out]; omega)
      subst e
      obtain ⟨z, hz⟩ : ∃ z, x.ids[k]?.getD 0 = z := ⟨_, rfl⟩
      have hkl : k < x.ids.length := by rw [HN.out]; exact hkn
      have hb := HI.out z (by rw [← hz, List.getElem?_eq_getElem hkl]; exact List.getElem_mem hkl)
      have HS := Lib.hid (take_snoc x.ids k hkl)
      rw [hz] at x0
      have HZ := Lib.hid hz
      have hb0 := hb.1
      have hb1 := hb.2
      clear hc hz hb
      go_wp2_with (at_builtin; refine wpList_append_ints rfl _ _ 22 rfl .u8 (w.heap.size + 1) 5 i0 1 Try.underlying22 hi hz0 hz1 hz2 _ _ _ rfl (hrow.alloc _) _ 1 1 [z] rfl (Rd.lit wr 5 (0, 0) [z] (one_byte (by omega))) (by have : maxLen = 9223372036854775807 := rfl; omega) (by omega) (le_alloc hBs) ?_; intro v2 w2 hown2 hgr2)
      go_roundw
      case rel => exact ⟨k + 1, by omega, by go_num, row_more (by omega) (by rw [HS.out, HZ.out]; simp) hown2, (hBr.alloc hBs _).grown hgr2 (le_alloc hBs) (fun z hz => (hrow.lt z hz).1)⟩
      case measure => simp [intOf]; omega
    · obtain rfl : k = n := by omega
      go_wp2
      go_ret
      refine ⟨_, rfl, row_more rfl ?_ (own_weaken hrow (Nat.le_succ _)), hbw⟩
      rw [List.take_of_length_le (by rw [HN.out]; omega)]
      unfold bodyR
      rw [HN.out]
end Go.Proofs.Ytpcahfjejbiocaa.Record
