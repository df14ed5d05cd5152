/-
  The walks of List, the program's and the reference's; the table of math/bits. By an AI agent.
-/
import Derived.Test.YtmmlnfffnfjjnaaDoorBitsMake3
import Derived.Lib.TrailingZeros
namespace Go.Proofs.YtmmlnfffnfjjnaaDoor.BitsWalks
open Go.RowKit Go.Proofs.YtmmlnfffnfjjnaaDoor.Ints Go.Proofs.YtmmlnfffnfjjnaaDoor.Words Go.Proofs.YtmmlnfffnfjjnaaDoor.RdW

/-- The table of math/bits, in its variable. -/
def Tab (w : World) : Prop := ∀ j, j < 64 → w.cell? ⟨0, j, none⟩ = some (.int .u8 (Lib.deBruijn64tab.getD j 0 : Nat))
theorem Tab.later {w w' : World} (h : Tab w) (hb : Below w.heap.size w w') : Tab w' := fun j hj => (hb.cell (World.block_lt_of_cell? w _ (h j hj))).trans (h j hj)

theorem tz_key (x a : Nat) (hx : x < 18446744073709551616) (hx0 : x ≠ 0) (hlow : x &&& (18446744073709551616 - x) = a) :
    IntKind.u64.wrap (bits BinOp.and IntKind.u64 (x : Int) (IntKind.u64.wrap (-(x : Int))) * 285870213051353865) / 288230376151711744 = ((a * 285870213051353865 % 18446744073709551616 / 288230376151711744 : Nat) : Int) := by
  have e1 : IntKind.u64.wrap (-(x : Int)) = ((18446744073709551616 - x : Nat) : Int) := by rw [IntKind.wrap_u64]; omega
  rw [e1, bits_and_u64_nat x _ hx (by omega), hlow, IntKind.wrap_u64]
  omega

theorem tz_core (x k i : Nat) (w : World) (hne : ((x : Int) == 0) = false)
    (key : IntKind.u64.wrap (bits BinOp.and IntKind.u64 (x : Int) (IntKind.u64.wrap (-(x : Int))) * 285870213051353865) / 288230376151711744 = (i : Int))
    (hi : i < 64) (hk : k < 64) (hcell : w.cell? ⟨0, i, none⟩ = some (.int .u8 k)) :
    Calls Tryd.prog 32 #[.int .u64 x] w fun e w' => e = .returned (.int .i64 k) ∧ w = w' := by
  go_enter Tryd.func32, Tryd.ntmps32
  go_wp2_with (simp only [key])
  go_ret
  exact ⟨rfl, rfl⟩

theorem trailing (x : Nat) (w : World) (hx : x < 18446744073709551616) (hx0 : x ≠ 0) (hT : Tab w) :
    Calls Tryd.prog 32 #[.int .u64 x] w fun e w' => e = .returned (.int .i64 (Lib.ctz 64 x)) ∧ w = w' := by
  obtain ⟨hlow, hk⟩ := Lib.lowest_bit 64 x hx0 hx
  obtain ⟨hi, htab⟩ := Lib.deBruijn64_at _ hk
  have hcell := hT _ hi
  rw [htab] at hcell
  exact tz_core x _ _ w (by simp; omega) (tz_key x _ hx hx0 hlow) hi hk hcell

theorem infoI : (Tryd.prog.info? 3).map (fun i => (i.zero, i.size, i.bytes)) = some (some (.int .i64 0), 1, 8) := by kernel_rfl

/-- The call hands back the numbers us, in memory of its own. -/
def GotList (w : World) (us : List Nat) (e : Ending) (w' : World) : Prop :=
  ∃ (A : Option Addr) (n c : Nat), e = .returned (.slice A n c) ∧ n = us.length ∧ Rd .i64 w' A n (ints us) ∧ n ≤ c ∧ c ≤ maxLen ∧ Below w.heap.size w w'

theorem int_wf {x : Nat} (h : x < 9223372036854775808) : (Lit.int .i64 (x : Int)).wf = true := by
  simp [Lit.wf, IntKind.min, IntKind.max, IntKind.signed, IntKind.bits]
  omega
theorem elems_small {xs : List Nat} (h : xs.length ≤ 1048576) : ∀ z ∈ ints (elems 0 xs), (Lit.int .i64 z).wf = true := by
  intro z hz
  obtain ⟨x, hx, rfl⟩ := List.mem_map.1 hz
  have := has_lt ((has_elems xs x).1 hx)
  exact int_wf (by omega)

section
variable (A : Option Addr) (n c : Nat) (xs : List Nat) (w : World)

set_option maxHeartbeats 1000000 in
set_option maxRecDepth 100000 in
theorem list_ (hn : n ≤ 1048576) (h : RdW w A n xs) (hT : Tab w) :
    Calls Tryd.prog 15 #[.slice A n c] w (GotList w (elems 0 xs)) := by
  obtain ⟨i0, hi, hz0, hz1, hz2⟩ := info_parts infoI
  have hws := h.ws
  have HL := Lib.hid h.len
  have htot := total_le xs
  have hcnt := count_ A n c xs w hn h
  go_enter Tryd.func15, Tryd.ntmps15
  go_wp2_with fail
  refine hcnt.mono ?_
  rintro e w' ⟨rfl, rfl⟩
  obtain ⟨T, hTe⟩ : ∃ T, total xs = T := ⟨_, rfl⟩
  rw [hTe] at htot ⊢
  have hTb : T ≤ 64 * 1048576 := by rw [h.len] at htot; omega
  have b1 : i0.bytes * T ≤ 281474976710656 := by rw [hz2]; omega
  have b2 : T ≤ maxLen := by unfold maxLen; omega
  clear hcnt htot hTe
  go_wp2_with (at_make; refine wpList_make_own _ rfl _ _ 22 rfl w.heap.size 3 i0 (.int .i64 0) 1 Tryd.underlying22 hi hz0 hz1 .i64 .i64 _ T rfl rfl (by omega) b1 b2 (Nat.le_refl _) ?_; intro w1 hmade hgr1)
  have hB1 : Below w.heap.size w w1 := (Below.refl _ _).grown hgr1 (Nat.le_refl _) (by simp)
  go_loopw [3, 11] (fun v i wr => ∃ k : Nat, k ≤ n ∧ i = .int .i64 k ∧ wr.ownsRow w.heap.size 3 1 v (elems 0 (xs.take k)).length ((ints (elems 0 (xs.take k))).map (Value.int .i64)) ∧ Below w.heap.size w wr) (fun _ i _ => n - (intOf i).toNat)
  case atStart => exact ⟨0, Nat.zero_le _, rfl, hmade, hB1⟩
  case round =>
    obtain ⟨k, hk, rfl, hown, hB⟩ := hrel
    clear hmade hgr1 hB1
    by_cases h0 : k < n
    · have hk0 : (k : Int) < (n : Int) := by omega
      obtain ⟨b, off, rfl, hc⟩ := (h.below hB).cell (by omega)
      have hc1 := hc k h0
      have HE := Lib.hid (elems_snoc xs k (by rw [HL.out]; exact h0))
      have hx := hws k
      obtain ⟨x, hxe⟩ : ∃ x, wd xs k = x := ⟨_, rfl⟩
      have HX := Lib.hid hxe
      rw [hxe] at hc1
      have hx' : x < 18446744073709551616 := by rw [← hxe]; exact hx
      clear hc hx hxe
      have HB := Lib.hid hB
      obtain ⟨us, hus⟩ : ∃ us, elems 0 (xs.take k) = us := ⟨_, rfl⟩
      have hlus : us.length ≤ 64 * k := by
        rw [← hus, elems_len]
        exact Nat.le_trans (total_le _) (by rw [List.length_take]; omega)
      rw [hus] at hown
      have HU := Lib.hid hus
      clear hus hB
      go_wp2
      go_loopw [3, 5] (fun v u wv => ∃ (y : Nat) (done : List Nat), u = .int .u64 y ∧ y < 18446744073709551616 ∧ done ++ bitsOf y = bitsOf x ∧
          wv.ownsRow w.heap.size 3 1 v (us.length + done.length) ((ints (us ++ done.map (64 * k + ·))).map (Value.int .i64)) ∧ Below w.heap.size w wv) (fun _ u _ => (intOf u).toNat)
      case atStart => exact ⟨x, [], rfl, hx', rfl, by simpa using hown, HB.out⟩
      case round =>
        obtain ⟨y, done, rfl, hy, hd, hown2, hB2⟩ := hrel
        clear hown
        by_cases hy0 : y = 0
        · subst hy0
          have HD := Lib.hid hd
          have HO := Lib.hid hown2
          clear hd hown2
          go_wp2
          go_roundw
          case rel =>
            have hd := HD.out
            rw [bits_zero, List.append_nil] at hd
            have e := HE.out
            rw [HU.out] at e
            have e2 := HX.out
            unfold wd at e2
            rw [e2, ← hd] at e
            refine ⟨k + 1, by omega, by go_num, ?_, hB2⟩
            rw [e, List.length_append, List.length_map]
            exact HO.out
          case measure => simp [intOf]; omega
        · have hlow := drop_low hy0 hy
          have htb : Lib.ctz 64 y < 64 := (low_bit hy0 hy).elim fun _ h => h.2
          have hdl := drop_lt hy0
          have htr := trailing y wr hy hy0 (hT.later hB2)
          obtain ⟨t, ht⟩ : ∃ t, Lib.ctz 64 y = t := ⟨_, rfl⟩
          obtain ⟨y2, hy2⟩ : ∃ y2, y &&& (y - 1) = y2 := ⟨_, rfl⟩
          have eA := bits_and_u64_nat y (y - 1) hy (by omega)
          have eS : IntKind.u64.wrap ((y : Int) - 1) = ((y - 1 : Nat) : Int) := by rw [IntKind.wrap_u64]; omega
          rw [← eS] at eA
          rw [ht] at hlow htb htr
          rw [hy2] at hlow hdl eA
          have hdone : done.length + 1 ≤ 64 := by
            have h1 := bits_le x
            rw [← hd, hlow, List.length_append, List.length_cons] at h1
            omega
          have hz : ∀ z ∈ [(k : Int) * 64 + (t : Int)], (Lit.int .i64 z).wf = true := by
            intro z hz
            rw [List.mem_singleton] at hz
            have := int_wf (x := k * 64 + t) (by omega)
            rw [hz]
            rwa [Int.natCast_add, Int.natCast_mul] at this
          have q1 : us.length + done.length + 1 ≤ maxLen := by unfold maxLen; omega
          have q2 : (us.length + done.length + 1) * 8 ≤ 140737488355328 := by omega
          have q3 : ∀ o, w.heap.size ≤ (wr.alloc o).heap.size := fun o => by have := hB2.size; simp; omega
          have htb' : (t : Int) < 64 := by omega
          have hkb : (k : Int) ≤ 1048576 := by omega
          have hne : ((y : Int) == 0) = false := by simp; omega
          have HD := Lib.hid (show (done ++ [t]) ++ bitsOf y2 = bitsOf x by rw [List.append_assoc, List.singleton_append, ← hlow]; exact hd)
          have HS := Lib.hid hdl
          have HY := Lib.hid (show y2 < 18446744073709551616 by omega)
          have HTR := Lib.hid htr
          have HZ := Lib.hid hz
          have HO := Lib.hid hown2
          clear hd hlow hdl ht hy2 eS hdone hy0 hy htr hz hown2
          go_wp2_with fail
          refine HTR.out.mono ?_
          rintro e w' ⟨rfl, rfl⟩
          go_wp2_with (at_builtin; refine wpList_append_ints rfl _ _ 22 rfl .i64 w.heap.size 3 i0 8 Tryd.underlying22 hi hz0 hz1 hz2 u3 (us.length + done.length) (ints (us ++ done.map (64 * k + ·))) rfl (HO.out.alloc _) _ 1 1 [(k : Int) * 64 + (t : Int)] rfl (Rd.lit wr 3 (0, 0) _ HZ.out) q1 q2 (q3 _) ?_; intro v3 w3 hown3 hgr3)
          go_roundw
          case rel =>
            refine ⟨y2, done ++ [t], rfl, HY.out, HD.out, ?_, (hB2.alloc hB2.size _).grown hgr3 (q3 _) (fun k hk => (HO.out.lt k hk).1)⟩
            have e : ints (us ++ (done ++ [t]).map (64 * k + ·)) = ints (us ++ done.map (64 * k + ·)) ++ [(k : Int) * 64 + (t : Int)] := by
              rw [List.map_append, ← List.append_assoc, ints_append]
              congr 1
              simp only [ints, List.map_cons, List.map_nil, List.cons.injEq, and_true]
              show ((64 * k + t : Nat) : Int) = _
              omega
            rw [e, List.length_append, List.length_singleton, ← Nat.add_assoc]
            exact hown3
          case measure => simp [intOf]; exact HS.out
    · have e : k = n := by omega
      subst e
      rw [List.take_of_length_le (by rw [HL.out]; omega)] at hown
      obtain ⟨D, cD, rfl, h1, h2, _⟩ := own_slice hown
      have hr := Rd.own hown (elems_small (by rw [HL.out]; exact hn))
      go_wp2
      go_ret
      exact ⟨D, _, cD, rfl, rfl, hr, h1, h2, hB⟩

set_option maxHeartbeats 1000000 in
theorem refList (hn : n ≤ 1048576) (h : RdW w A n xs) :
    Calls Tryd.prog 16 #[.slice A n c] w (GotList w (elems 0 xs)) := by
  obtain ⟨i0, hi, hz0, hz1, hz2⟩ := info_parts infoI
  have hws := h.ws
  have HL := Lib.hid h.len
  go_enter Tryd.func16, Tryd.ntmps16
  go_wp2
  go_loopw [3, 8] (fun v i wr => ∃ k : Nat, k ≤ n ∧ i = .int .i64 k ∧ wr.ownsRow w.heap.size 3 1 v (elems 0 (xs.take k)).length ((ints (elems 0 (xs.take k))).map (Value.int .i64)) ∧ Below w.heap.size w wr) (fun _ i _ => n - (intOf i).toNat)
  case atStart => exact ⟨0, Nat.zero_le _, rfl, World.ownsRow_nil _ _ _ _, Below.refl _ _⟩
  case round =>
    obtain ⟨k, hk, rfl, hown, hB⟩ := hrel
    by_cases h0 : k < n
    · have hk0 : (k : Int) < (n : Int) := by omega
      have HE := Lib.hid (elems_snoc xs k (by rw [HL.out]; exact h0))
      have hx := hws k
      obtain ⟨x, hxe⟩ : ∃ x, wd xs k = x := ⟨_, rfl⟩
      have HX := Lib.hid hxe
      have hx' : x < 18446744073709551616 := by rw [← hxe]; exact hx
      clear hx hxe
      have HB := Lib.hid hB
      obtain ⟨us, hus⟩ : ∃ us, elems 0 (xs.take k) = us := ⟨_, rfl⟩
      have hlus : us.length ≤ 64 * k := by
        rw [← hus, elems_len]
        exact Nat.le_trans (total_le _) (by rw [List.length_take]; omega)
      rw [hus] at hown
      have HU := Lib.hid hus
      have HO := Lib.hid hown
      clear hus hB hown
      go_wp2
      go_loopw [3, 11] (fun v i wv => ∃ (q : Nat) (d : List Nat), q ≤ 64 ∧ i = .int .i64 q ∧ (List.range q).filter x.testBit = d ∧ d.length ≤ q ∧
          wv.ownsRow w.heap.size 3 1 v (us.length + d.length) ((ints (us ++ d.map (64 * k + ·))).map (Value.int .i64)) ∧ Below w.heap.size w wv) (fun _ i _ => 64 - (intOf i).toNat)
      case atStart => exact ⟨0, [], Nat.zero_le _, rfl, rfl, Nat.le_refl _, by simpa using HO.out, HB.out⟩
      case round =>
        obtain ⟨q, d, hq, rfl, hd, hdq, hown2, hB2⟩ := hrel
        have HD := Lib.hid hd
        have HO2 := Lib.hid hown2
        have HB2 := Lib.hid hB2
        by_cases hq1 : q < 64
        · obtain ⟨b, off, e1, hc⟩ := (h.below hB2).cell (by omega)
          subst e1
          have hc1 := hc k h0
          have hxk : wd xs k = x := HX.out
          rw [hxk] at hc1
          have hq2 : (q : Int) < 64 := by omega
          have e2 : IntKind.u64.wrap (q : Int) = (q : Int) := by rw [IntKind.wrap_u64]; omega
          have e3 : (q : Int) ≤ 64 := by omega
          have hkb : (k : Int) ≤ 1048576 := by omega
          have hbit := bit_one x q hx'
          have hsn : (List.range (q + 1)).filter x.testBit = d ++ (if x.testBit q then [q] else []) := by
            rw [List.range_succ, List.filter_append, hd, List.filter_cons, List.filter_nil]
          have HS := Lib.hid hsn
          have q1 : us.length + d.length + 1 ≤ maxLen := by unfold maxLen; omega
          have q2 : (us.length + d.length + 1) * 8 ≤ 140737488355328 := by omega
          have q3 : ∀ o, w.heap.size ≤ (wr.alloc o).heap.size := fun o => by have := hB2.size; simp; omega
          have hz : ∀ z ∈ [64 * (k : Int) + (q : Int)], (Lit.int .i64 z).wf = true := by
            intro z hz
            rw [List.mem_singleton] at hz
            have := int_wf (x := 64 * k + q) (by omega)
            rw [hz]
            rwa [Int.natCast_add, Int.natCast_mul] at this
          have HZ := Lib.hid hz
          clear hd hown2 hB2 hxk hsn hc hz
          cases ht : x.testBit q
          · rw [ht] at hbit
            have HT := Lib.hid ht
            clear ht
            go_wp2
            go_roundw
            case rel =>
              have hs := HS.out
              rw [HT.out] at hs
              exact ⟨q + 1, d, by omega, by go_num, by simpa using hs, by omega, HO2.out, HB2.out⟩
            case measure => simp [intOf]; omega
          · rw [ht] at hbit
            have HT := Lib.hid ht
            clear ht
            go_wp2_with (at_builtin; refine wpList_append_ints rfl _ _ 22 rfl .i64 w.heap.size 3 i0 8 Tryd.underlying22 hi hz0 hz1 hz2 u3 (us.length + d.length) (ints (us ++ d.map (64 * k + ·))) rfl (HO2.out.alloc _) _ 1 1 [64 * (k : Int) + (q : Int)] rfl (Rd.lit wr 3 (0, 0) _ HZ.out) q1 q2 (q3 _) ?_; intro v3 w3 hown3 hgr3)
            go_roundw
            case rel =>
              have hs := HS.out
              rw [HT.out] at hs
              refine ⟨q + 1, d ++ [q], by omega, by go_num, by simpa using hs, by rw [List.length_append, List.length_singleton]; omega, ?_, (HB2.out.alloc HB2.out.size _).grown hgr3 (q3 _) (fun k hk => (HO2.out.lt k hk).1)⟩
              have e : ints (us ++ (d ++ [q]).map (64 * k + ·)) = ints (us ++ d.map (64 * k + ·)) ++ [64 * (k : Int) + (q : Int)] := by
                rw [List.map_append, ← List.append_assoc, ints_append]
                congr 1
              rw [e, List.length_append, List.length_singleton, ← Nat.add_assoc]
              exact hown3
            case measure => simp [intOf]; omega
        · have e : q = 64 := by omega
          subst e
          clear hd hown2 hB2
          go_wp2
          go_roundw
          case rel =>
            have e := HE.out
            rw [HU.out] at e
            have e2 := HX.out
            unfold wd at e2
            have e3 : bitsOf x = d := HD.out
            rw [e2, e3] at e
            refine ⟨k + 1, by omega, by go_num, ?_, HB2.out⟩
            rw [e, List.length_append, List.length_map]
            exact HO2.out
          case measure => simp [intOf]; omega
    · have e : k = n := by omega
      subst e
      rw [List.take_of_length_le (by rw [HL.out]; omega)] at hown
      obtain ⟨D, cD, rfl, h1, h2, _⟩ := own_slice hown
      have hr := Rd.own hown (elems_small (by rw [HL.out]; exact hn))
      go_wp2
      go_ret
      exact ⟨D, _, cD, rfl, rfl, hr, h1, h2, hB⟩
end
end Go.Proofs.YtmmlnfffnfjjnaaDoor.BitsWalks
