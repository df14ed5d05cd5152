/-
  The walks of the law's tells, and of the law TreeMays. By an AI agent.
-/
import Derived.Test.YtmahbocelckmcaaTreeTells
import Derived.Test.YtmahbocelckmcaaTreeSameN
namespace Go.Proofs.Ytmahbocelckmcaa.Tree
open Go.RowKit Go.Sort Go.Proofs.Ytmahbocelckmcaa.Ints

theorem part_short (l : List Nd) (i : Int) : (partL l i).length ≤ l.length := by
  unfold partL
  split
  · rw [List.length_map, List.length_drop, List.length_take]; omega
  · exact Nat.zero_le _

set_option maxHeartbeats 8000000 in
set_option maxRecDepth 100000 in
theorem lawTells (A : Option Addr) (n c : Nat) (i : Int) (l : List Nd) (w : World) (hl : l.length = n) (hn : n ≤ 1048576) (hnc : n ≤ c) (h : Nodes Any w A l) (hi : small64 i) :
    Calls Try.prog 10 #[.slice A n c, .int .i64 i] w fun e w' => e = .returned (.bool true) ∧ Below w.heap.size w w' := by
  have P1 := Lib.hid (fun W (hb : Below w.heap.size w W) => landMay A n c l W hl hn (h.below hb))
  have R1 := Lib.hid (fun W (hb : Below w.heap.size w W) => refMay A n c l W hl hn (h.below hb))
  have P2 := Lib.hid (fun W (hb : Below w.heap.size w W) => landForm A n c l W hl hn (h.below hb))
  have R2 := Lib.hid (fun W (hb : Below w.heap.size w W) => refForm A n c l W hl hn (h.below hb))
  have P3 := Lib.hid (fun W (hb : Below w.heap.size w W) => landReg A n c l W hl hn (h.below hb))
  have R3 := Lib.hid (fun W (hb : Below w.heap.size w W) => refReg A n c l W hl hn (h.below hb))
  have P4 := Lib.hid (fun W (hb : Below w.heap.size w W) => landPlain A n c l W hl hn (h.below hb))
  have R4 := Lib.hid (fun W (hb : Below w.heap.size w W) => refPlain A n c l W hl hn (h.below hb))
  have P5 := Lib.hid (fun W (hb : Below w.heap.size w W) => landDepth A n c l W hl hn (h.below hb))
  have R5 := Lib.hid (fun W (hb : Below w.heap.size w W) => refDepth A n c l W hl hn (h.below hb))
  have P6 := Lib.hid (fun W (hb : Below w.heap.size w W) => landNames A n c l W hl hn (h.below hb))
  have R6 := Lib.hid (fun W (hb : Below w.heap.size w W) => refNames A n c l W hl hn (h.below hb))
  have P7 := Lib.hid (fun W (hb : Below w.heap.size w W) => landPart A n c i l W hl hn hnc (h.below hb) hi)
  have R7 := Lib.hid (fun W (hb : Below w.heap.size w W) => refPart A n c i l W hl hn hnc (h.below hb) hi)
  have HPL := Lib.hid (show (partL l i).length ≤ 4194304 by have := part_short l i; omega)
  have HNL := Lib.hid (show (namesL l).length ≤ 1048576 by
    unfold namesL
    split
    · have := names_len l l.length
      rw [List.take_of_length_le (Nat.le_refl _)] at this
      rw [List.length_mergeSort]; omega
    · exact Nat.zero_le _)
  clear hl hn hnc h hi
  obtain ⟨m1, e1⟩ : ∃ b, mayL l = b := ⟨_, rfl⟩
  obtain ⟨m2, e2⟩ : ∃ b, formL l = b := ⟨_, rfl⟩
  obtain ⟨m3, e3⟩ : ∃ b, regL l = b := ⟨_, rfl⟩
  obtain ⟨m4, e4⟩ : ∃ b, plainL l = b := ⟨_, rfl⟩
  obtain ⟨m5, e5⟩ : ∃ b, depthL l = b := ⟨_, rfl⟩
  obtain ⟨ns, e6⟩ : ∃ b, namesL l = b := ⟨_, rfl⟩
  obtain ⟨pl, e7⟩ : ∃ b, partL l i = b := ⟨_, rfl⟩
  rw [e1] at P1 R1
  rw [e2] at P2 R2
  rw [e3] at P3 R3
  rw [e4] at P4 R4
  rw [e5] at P5 R5
  rw [e6] at P6 R6 HNL
  rw [e7] at P7 R7 HPL
  obtain ⟨q, hq⟩ : ∃ q, ns.length = q := ⟨_, rfl⟩
  obtain ⟨t, ht⟩ : ∃ t, pl.length = t := ⟨_, rfl⟩
  rw [hq] at HNL
  rw [ht] at HPL
  have HQ := Lib.hid hq
  have HT := Lib.hid ht
  clear e1 e2 e3 e4 e5 e6 e7 hq ht
  have hq64 : (q : Int) ≤ 1048576 := by have := HNL.out; omega
  go_enter Try.func10, Try.ntmps10
  go_wp2_with fail
  refine (P1.out _ (Below.refl _ _)).mono ?_
  rintro e w1 ⟨rfl, hb1⟩
  have B1 := Lib.hid hb1
  clear hb1
  go_wp2_with fail
  refine (R1.out _ B1.out).mono ?_
  rintro e w2 ⟨rfl, hb1⟩
  have B2 := Lib.hid (B1.out.trans (hb1.mono B1.out.size))
  clear hb1
  go_wp2_with fail
  refine (P2.out _ B2.out).mono ?_
  rintro e w3 ⟨rfl, hb1⟩
  have B3 := Lib.hid (B2.out.trans (hb1.mono B2.out.size))
  clear hb1
  go_wp2_with fail
  refine (R2.out _ B3.out).mono ?_
  rintro e w4 ⟨rfl, hb1⟩
  have B4 := Lib.hid (B3.out.trans (hb1.mono B3.out.size))
  clear hb1
  go_wp2_with fail
  refine (P3.out _ B4.out).mono ?_
  rintro e w5 ⟨rfl, hb1⟩
  have B5 := Lib.hid (B4.out.trans (hb1.mono B4.out.size))
  clear hb1
  go_wp2_with fail
  refine (R3.out _ B5.out).mono ?_
  rintro e w6 ⟨rfl, hb1⟩
  have B6 := Lib.hid (B5.out.trans (hb1.mono B5.out.size))
  clear hb1
  go_wp2_with fail
  refine (P4.out _ B6.out).mono ?_
  rintro e w7 ⟨rfl, hb1⟩
  have B7 := Lib.hid (B6.out.trans (hb1.mono B6.out.size))
  clear hb1
  go_wp2_with fail
  refine (R4.out _ B7.out).mono ?_
  rintro e w8 ⟨rfl, hb1⟩
  have B8 := Lib.hid (B7.out.trans (hb1.mono B7.out.size))
  clear hb1
  go_wp2_with fail
  refine (P5.out _ B8.out).mono ?_
  rintro e w9 ⟨rfl, hb1⟩
  have B9 := Lib.hid (B8.out.trans (hb1.mono B8.out.size))
  clear hb1
  go_wp2_with fail
  refine (R5.out _ B9.out).mono ?_
  rintro e w10 ⟨rfl, hb1⟩
  have B10 := Lib.hid (B9.out.trans (hb1.mono B9.out.size))
  clear hb1
  go_wp2_with fail
  refine (P6.out _ B10.out).mono ?_
  rintro e w11 ⟨A1, c1, rfl, hs1, -, -, hb1⟩
  have B11 := Lib.hid (B10.out.trans (hb1.mono B10.out.size))
  have S1 := Lib.hid hs1
  clear hb1 hs1
  rw [HQ.out]
  go_wp2_with fail
  refine (R6.out _ B11.out).mono ?_
  rintro e w12 ⟨A2, c2, rfl, hs1, -, -, hb1⟩
  have B12 := Lib.hid (B11.out.trans (hb1.mono B11.out.size))
  have S2 := Lib.hid hs1
  have S3 := Lib.hid (S1.out.below hb1)
  clear hb1 hs1
  rw [HQ.out]
  go_wp2
  go_loopw [52] (fun v wr => ∃ k : Nat, k ≤ q ∧ v = .int .i64 k ∧ Below w12.heap.size w12 wr) (fun v _ => q - (intOf v).toNat)
  case atStart => exact ⟨0, Nat.zero_le _, rfl, Below.refl _ _⟩
  case round =>
    obtain ⟨k, hk, rfl, hB⟩ := hrel
    have HB := Lib.hid hB
    clear hB
    by_cases hkq : k < q
    · have hkq' : (k : Int) < (q : Int) := by omega
      have hk0 : (0 : Int) ≤ (k : Int) := by omega
      obtain ⟨b1, o1, rfl, hc1⟩ := (S3.out.below HB.out) (by have := HQ.out; omega)
      obtain ⟨b2, o2, rfl, hc2⟩ := (S2.out.below HB.out) (by have := HQ.out; omega)
      obtain ⟨s, hs⟩ : ∃ s, ns[k]? = some s := ⟨_, List.getElem?_eq_getElem (by have := HQ.out; omega)⟩
      have d1 := hc1 k s hs
      have d2 := hc2 k s hs
      unfold encStr at d1 d2
      obtain ⟨z, hz⟩ : ∃ z : ByteArray, ({ data := s.toArray } : ByteArray) = z := ⟨_, rfl⟩
      rw [hz] at d1 d2
      clear hc1 hc2 hs hz
      go_wp2
      go_quiet (fail)
      go_wp2
      go_roundw
      case rel => exact ⟨k + 1, by omega, by go_num, below_drewN HB.out _⟩
      case measure => simp [intOf]; omega
    · have hge : decide ((k : Int) < (q : Int)) = false := by simp; omega
      have B13 := Lib.hid (B12.out.trans (HB.out.mono B12.out.size))
      go_wp2_with fail
      refine (P7.out _ B13.out).mono ?_
      rintro e w14 ⟨A3, c3, rfl, hs1, -, -, hb1⟩
      have B14 := Lib.hid (B13.out.trans (hb1.mono B13.out.size))
      have N1 := Lib.hid hs1
      clear hb1 hs1
      rw [HT.out]
      go_wp2_with fail
      refine (R7.out _ B14.out).mono ?_
      rintro e w15 ⟨A4, c4, rfl, hs1, -, -, hb1⟩
      have B15 := Lib.hid (B14.out.trans (hb1.mono B14.out.size))
      have N2 := Lib.hid hs1
      have N3 := Lib.hid (N1.out.below hb1)
      clear hb1 hs1
      rw [HT.out]
      go_wp2_with fail
      have hsm := refSameNodes A3 A4 t c3 t c4 pl pl w15 HT.out HT.out HPL.out N3.out.any N2.out.any
      rw [decide_eq_true rfl] at hsm
      refine hsm.mono ?_
      rintro e w16 ⟨rfl, hb1⟩
      have B16 := Lib.hid (B15.out.trans (hb1.mono B15.out.size))
      clear hb1 hsm
      go_wp2
      go_ret
      exact ⟨rfl, B16.out⟩

set_option maxHeartbeats 4000000 in
theorem lawMays (A : Option Addr) (n c : Nat) (i : Int) (l : List Nd) (w : World) (hl : l.length = n) (hnc : n ≤ c) (hc : c ≤ maxLen) (h : Nodes Any w A l) (hi : small64 i) :
    Calls Try.prog 3 #[.slice A n c, .int .i64 i] w fun e w' => e = .returned (.bool true) ∧ Below w.heap.size w w' := by
  have hm : maxLen = 9223372036854775807 := rfl
  have hn64 : (n : Int) ≤ 9223372036854775807 := by omega
  have HA := Lib.hid (fun W => awake W)
  by_cases hk : 1000 < n
  · have hk' : (1000 : Int) < (n : Int) := by omega
    clear hl hnc hc h hi hk hm
    go_enter Try.func3, Try.ntmps3
    go_wp2_with (go_at_call 9; refine (HA.out _).mono ?_; rintro e w1 ⟨rfl, hb1⟩)
    go_ret
    exact ⟨rfl, hb1⟩
  · have hk' : decide ((1000 : Int) < (n : Int)) = false := by simp; omega
    have HT := Lib.hid (lawTells A n c i l w hl (by omega) hnc h hi)
    clear hl hnc hc h hi hk hm
    go_enter Try.func3, Try.ntmps3
    go_wp2_with (first
      | (go_at_call 10; refine HT.out.mono ?_; rintro e w1 ⟨rfl, hb1⟩)
      | (go_at_call 9; refine (HA.out _).mono ?_; rintro e w2 ⟨rfl, hb2⟩))
    go_ret
    exact ⟨rfl, hb1.trans (hb2.mono hb1.size)⟩
end Go.Proofs.Ytmahbocelckmcaa.Tree
