/-
  The law's Event (stage 9): an event by its time, and its ids as bits; its walk. By an AI agent.
-/
import Derived.Test.YtpcahfjejbiocaaRecordEvent
import Derived.Test.YtpcahfjejbiocaaRdW
namespace Go.Proofs.Ytpcahfjejbiocaa.Record
open Go.RowKit Go.Proofs.Ytpcahfjejbiocaa.Ints Go.Proofs.Ytpcahfjejbiocaa.Mem Go.Proofs.Ytpcahfjejbiocaa.SumMath Go.Proofs.Ytpcahfjejbiocaa.SumWalks Go.Proofs.Ytpcahfjejbiocaa.Trace

def bitsUp (x k : Nat) : List Int := ((List.range k).filter x.testBit).map Int.ofNat
/-- The event of a time and bits. -/
def evB (t : Int) (x : Nat) : Ev := ⟨t, bitsUp x 64⟩
theorem bits_len (x k : Nat) : (bitsUp x k).length ≤ k := by
  unfold bitsUp
  rw [List.length_map]
  have := List.length_filter_le x.testBit (List.range k)
  rwa [List.length_range] at this
theorem bits_next (x k : Nat) : bitsUp x (k + 1) = bitsUp x k ++ (if x.testBit k then [(k : Int)] else []) := by
  unfold bitsUp
  rw [List.range_succ, List.filter_append, List.map_append, List.filter_cons, List.filter_nil]
  split <;> rfl
theorem bits_bd (x k : Nat) : ∀ z ∈ bitsUp x k, 0 ≤ z ∧ z < (k : Int) := by
  intro z hz
  obtain ⟨i, hi, rfl⟩ := List.mem_map.1 hz
  have := List.mem_range.1 (List.mem_filter.1 hi).1
  constructor
  · exact Int.natCast_nonneg i
  · show (i : Int) < k
    omega
theorem bits_sorted (x k : Nat) : (bitsUp x k).Pairwise (· < ·) := by
  unfold bitsUp
  rw [List.pairwise_map]
  refine (List.Pairwise.filter _ List.pairwise_lt_range).imp ?_
  intro a b h
  exact Int.ofNat_lt.2 h
theorem sorted_ok {l : List Int} {p : Int} (hs : l.Pairwise (· < ·)) (hb : ∀ z ∈ l, 0 ≤ z ∧ z < p) : idsOk l p = true := by
  rw [idsOk_iff]
  intro i hi
  have e1 : l.getD i 0 = l[i] := by simp [List.getD, hi]
  have h1 := hb l[i] (List.getElem_mem hi)
  unfold IdGood
  rw [e1]
  refine ⟨h1.1, h1.2, fun h0 => ?_⟩
  have e2 : l.getD (i - 1) 0 = l[i - 1]'(by omega) := by
    have : i - 1 < l.length := by omega
    simp [List.getD, this]
  rw [e2]
  exact List.pairwise_iff_getElem.1 hs (i - 1) i (by omega) hi (by omega)
theorem bits_ok (x : Nat) : idsOk (bitsUp x 64) 64 = true := sorted_ok (bits_sorted x 64) (bits_bd x 64)
theorem bits_wf (x k : Nat) (hk : k ≤ 64) : ∀ z ∈ bitsUp x k, (Lit.int .i64 z).wf = true := fun z hz => by
  have := bits_bd x k z hz
  simp [Lit.wf, IntKind.min, IntKind.max, IntKind.signed, IntKind.bits]
  omega

set_option maxHeartbeats 4000000 in
set_option maxRecDepth 100000 in
theorem lawEvent (t : Int) (x : Nat) (X : Int) (hX : X = (x : Int)) (w : World) (ht : (Lit.int .u64 t).wf = true) (hx : x < 18446744073709551616) :
    Calls Try.prog 9 #[.int .u64 t, .int .u64 X] w (GotE w (evB t x)) := by
  subst hX
  obtain ⟨i0, hi, hz0, hz1, hz2⟩ := info_parts infoInt
  have q63 : maxLen = 9223372036854775807 := rfl
  have HT := Lib.hid ht
  obtain ⟨ht0, ht1⟩ := wf_u64 ht
  have HX := Lib.hid hx
  clear ht hx
  go_enter Try.func9, Try.ntmps9
  go_wp2
  go_loopw [9] (fun i wr => ∃ (k : Nat) (v : Value), k ≤ 64 ∧ i = .int .i64 k ∧ Blk wr w.heap.size [.int .u64 0, .slice none 0 0] ∧ Blk wr (w.heap.size + 1) [.int .u64 t, v] ∧ wr.ownsRow (w.heap.size + 2) 3 1 v (bitsUp x k).length ((bitsUp x k).map (Value.int .i64)) ∧ Below w.heap.size w wr ∧ w.heap.size + 2 ≤ wr.heap.size) (fun i _ => 64 - (intOf i).toNat)
  case atStart =>
    refine ⟨0, _, Nat.zero_le _, rfl, (Blk.new w #[.int .u64 0, .slice none 0 0] 26 _ rfl).alloc _, ?_, World.ownsRow_nil _ _ _ _, ((Below.refl _ _).alloc (Nat.le_refl _) _).alloc (le_alloc (Nat.le_refl _)) _, by simp⟩
    have := Blk.new (w.alloc (.cells #[.int .u64 0, .slice none 0 0] 26)) #[.int .u64 t, .slice none 0 0] 26 _ rfl
    simpa using this
  case round =>
    obtain ⟨k, v, hk, rfl, hK0, hK1, hrow, hBr, hsz⟩ := hrel
    have e0 := hK1.cell 0 rfl
    have e1 := hK1.cell 1 rfl
    have f1 := hK1.fz 1 rfl
    have r0 := hK0.cell 0 rfl
    have r1 := hK0.cell 1 rfl
    have q0 := hK0.fz 0 rfl
    have q1 := hK0.fz 1 rfl
    have HR := Lib.hid hrow
    have HK0 := Lib.hid hK0
    have HK1 := Lib.hid hK1
    by_cases hk8 : k < 64
    · have hk2 : (k : Int) < 64 := by omega
      have e2 : IntKind.u64.wrap (k : Int) = (k : Int) := by rw [IntKind.wrap_u64]; omega
      have hbit := RdW.bit_one x k HX.out
      have HN := Lib.hid (bits_next x k)
      have hlen := bits_len x k
      obtain ⟨A1, c1, rfl, hc1, hm1, -, hb1⟩ := own_slice hrow
      clear hrow hK0 hK1 r0 r1 q0 q1
      cases htb : x.testBit k
      · rw [htb] at hbit
        have HTB := Lib.hid htb
        clear htb
        go_wp2
        go_roundw
        case rel =>
          have hs := HN.out
          rw [HTB.out] at hs
          have hs2 : bitsUp x (k + 1) = bitsUp x k := by simpa using hs
          exact ⟨k + 1, _, by omega, by go_num, HK0.out, HK1.out, by rw [hs2]; exact HR.out, hBr, hsz⟩
        case measure => simp [intOf]; omega
      · rw [htb] at hbit
        have HTB := Lib.hid htb
        clear htb
        have hne : ∀ g, g < w.heap.size + 2 → some g ≠ (Value.slice A1 (bitsUp x k).length c1).ownBlock := fun g hg e => by
          cases A1 with
          | none => simp [Value.ownBlock] at e
          | some a => simp [Value.ownBlock] at e; have := (hb1 a rfl).1; omega
        obtain ⟨m, hm⟩ : ∃ m, (bitsUp x k).length = m := ⟨_, rfl⟩
        rw [hm] at HR HK1 e1 hne hlen hc1
        have HM := Lib.hid hm
        have hkw : ∀ y ∈ [(k : Int)], (Lit.int .i64 y).wf = true := byte_i64 ⟨by omega, by omega⟩
        have HKW := Lib.hid hkw
        clear hm hkw
        go_wp2_with (at_builtin; refine wpList_append_ints rfl _ _ 24 rfl .i64 (w.heap.size + 2) 3 i0 8 Try.underlying24 hi hz0 hz1 hz2 _ _ _ rfl (HR.out.alloc _) _ 1 1 [(k : Int)] rfl (Rd.lit wr 3 (0, 0) [(k : Int)] HKW.out) (by omega) (by omega) (le_alloc hsz) ?_; intro v2 w2 hown2 hgr2; obtain ⟨A2, c2, rfl, -⟩ := own_slice hown2; have hK1' := (HK1.out.alloc (.cells #[.int .i64 (k : Int)] 3)).grown hgr2 (hne _ (by omega)); have y1 := hK1'.cell 1 rfl; have y2 := hK1'.fz 1 rfl)
        go_roundw
        case rel =>
          have hs := HN.out
          rw [HTB.out] at hs
          have hs2 : bitsUp x (k + 1) = bitsUp x k ++ [(k : Int)] := by simpa using hs
          have hl2 : (bitsUp x (k + 1)).length = m + 1 := by rw [hs2, List.length_append, HM.out]; rfl
          have hK0' := (HK0.out.alloc (.cells #[.int .i64 (k : Int)] 3)).grown hgr2 (hne _ (by omega))
          have hB2 := (hBr.alloc hBr.size (.cells #[.int .i64 (k : Int)] 3)).grown hgr2 (le_alloc hBr.size) (fun q hq => by have := (HR.out.lt q hq).1; omega)
          have hs3 : w.heap.size + 2 ≤ w2.heap.size := Nat.le_trans (le_alloc (o := .cells #[.int .i64 (k : Int)] 3) hsz) hgr2.size
          refine ⟨k + 1, .slice A2 (m + 1) c2, by omega, by go_num, hK0'.other _ _ (by simp), hK1'.set 1 _ (by simp), ?_, hB2.setCell (by simp) _, by simpa [World.setCell] using hs3⟩
          rw [hl2, hs2]
          exact own_other hown2 ⟨w.heap.size + 1, 1, none⟩ (.slice A2 (m + 1) c2) (Nat.lt_succ_self _)
        case measure => simp [intOf]; omega
    · obtain rfl : k = 64 := by omega
      obtain ⟨A1, c1, rfl, hc1, hm1, -, hb1⟩ := own_slice hrow
      obtain ⟨m, hm⟩ : ∃ m, (bitsUp x 64).length = m := ⟨_, rfl⟩
      rw [hm] at HR HK1 e1 hc1
      have HM := Lib.hid hm
      clear hrow hK0 hK1 hm
      go_wp2
      refine bodyPost_ret (v := .agg #[.int .u64 t, .slice A1 m c1]) (by simp [results, Try.results9, go_sem, r0, r1]) rfl ?_
      have hown := own_other (own_other HR.out ⟨w.heap.size, 0, none⟩ (.int .u64 t) (by simp)) ⟨w.heap.size, 1, none⟩ (.slice A1 m c1) (by simp)
      refine ⟨A1, c1, by rw [show (evB t x).ids.length = m from HM.out]; rfl, ⟨HT.out, ?_, ?_, hm1⟩, (hBr.setCell (Nat.le_refl _) _).setCell (Nat.le_refl _) _, fun a ha => by have := (hb1 a ha).1; omega⟩
      · show Rd .i64 _ A1 (bitsUp x 64).length (bitsUp x 64)
        rw [HM.out]
        exact Rd.own hown (bits_wf x 64 (Nat.le_refl _))
      · show (bitsUp x 64).length ≤ c1
        rw [HM.out]
        exact hc1
end Go.Proofs.Ytpcahfjejbiocaa.Record
