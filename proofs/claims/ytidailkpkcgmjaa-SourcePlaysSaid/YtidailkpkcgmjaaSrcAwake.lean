/-
  The laws' awake (stage 11), and the law SourceNil. By an AI agent.
-/
import Derived.Test.YtidailkpkcgmjaaSrcReads
import Derived.Lib.SlBytesConst
namespace Go.Proofs.Ytidailkpkcgmjaa.Src
open Go.RowKit Go.Proofs.Ytidailkpkcgmjaa.Ints Go.Proofs.Ytidailkpkcgmjaa.Mem

/-- Bytes that a Read handed out, as a string. -/
theorem conv_own {w : World} {base : Nat} {A : Option Addr} {n c : Nat} {zs : List Int} (h : w.ownsRow base 5 1 (.slice A n c) n (zs.map (Value.int .u8))) (hz : ∀ z ∈ zs, (Lit.int .u8 z).wf = true) :
    (convert 22 9 (.slice A n c)).run Try.prog w = .ok (.string (strOfNums zs)) w :=
  run_str _ _ _ Try.underlying22 Try.underlying5 Try.underlying9 (Rd.own h hz)
set_option maxHeartbeats 4000000 in
set_option maxRecDepth 100000 in
theorem lawAwake (w : World) : Calls Try.prog 13 #[] w fun e w' => e = .returned (.bool true) ∧ Below w.heap.size w w' := by
  have q63 : maxLen = 9223372036854775807 := rfl
  have kc := fun (w : World) (C : Array Value) (n c : Nat) => Lib.run_convert_bytes_const (P := Try.prog) w 22 5 C n c Try.underlying22 Try.underlying5
  obtain ⟨w0, hw0⟩ : ∃ w0, w.alloc (.cells #[.int .u8 97, .int .u8 98, .int .u8 99, .int .u8 100] 5 (4, 5)) = w0 := ⟨_, rfl⟩
  have hs0 : w0.heap.size = w.heap.size + 1 := by rw [← hw0]; simp
  have hb0 : Below w.heap.size w w0 := by rw [← hw0]; exact (Below.refl _ _).alloc (Nat.le_refl _) _
  have hr0 : Rd .u8 w0 (some ⟨w.heap.size, 0, none⟩) 4 [97, 98, 99, 100] := by rw [← hw0]; exact Rd.lit w 5 (4, 5) [97, 98, 99, 100] (by decide)
  obtain ⟨w1, hw1⟩ : ∃ w1, w0.alloc (.cells #[.int .i64 3] 3) = w1 := ⟨_, rfl⟩
  have hb1 : Below w.heap.size w w1 := by rw [← hw1]; exact hb0.alloc hb0.size _
  have hr1 : Rd .u8 w1 (some ⟨w.heap.size, 0, none⟩) 4 [97, 98, 99, 100] := by rw [← hw1]; exact hr0.alloc _
  have hsc : Rd .i64 w1 (some ⟨w.heap.size + 1, 0, none⟩) 1 [3] := by rw [← hw1, ← hs0]; exact Rd.lit w0 3 (0, 0) [3] (by decide)
  have HN := Lib.hid (landNew (some ⟨w.heap.size, 0, none⟩) 4 4 [97, 98, 99, 100] (some ⟨w.heap.size + 1, 0, none⟩) 1 1 [3] (-1) w1 (by decide) (by decide) hr1 hsc (by decide) (by decide))
  have HB1 := Lib.hid hb1
  clear hr0 hb0 hb1 hr1 hsc
  go_enter Try.func13, Try.ntmps13
  go_wp2_with fail
  refine HN.out.mono ?_
  rintro e w2 ⟨g, rfl, hL0, hg, hB2⟩
  obtain ⟨S, hL⟩ : ∃ S, LSrc S w2 g [97, 98, 99, 100] [3] 4 0 := ⟨_, hL0⟩
  have hglt := hL.lt
  clear hL0
  have HB2 := Lib.hid (HB1.out.trans (hB2.mono HB1.out.size))
  have HR := Lib.hid (landRead S g [97, 98, 99, 100] [3] 4 0 0 4 w2 hL (by decide) ⟨by decide, by decide⟩ ⟨by decide, by decide⟩ (by decide))
  have hgw : w.heap.size ≤ g := by have := HB1.out.size; omega
  clear kc hw0 hs0 hw1 HN HB1 hL hB2 hg
  clear w1
  clear w0
  go_wp2_with fail
  refine HR.out.mono ?_
  rintro e w3 ⟨v3, rfl, hown3, hL3, hgr3⟩
  have e3 : readL [97, 98, 99, 100] 4 [3] 0 0 4 = [97, 98, 99] := by decide +kernel
  have e4 : readE ([97, 98, 99, 100] : List Int).length 4 0 4 = 0 := by decide +kernel
  have e5 : readN ([97, 98, 99, 100] : List Int).length 4 0 0 4 = 1 := by decide +kernel
  rw [e3] at hown3
  rw [e5] at hL3
  rw [e4]
  obtain ⟨A3, c3, rfl, -⟩ := own_slice hown3
  have HB3 := Lib.hid (HB2.out.trans ((below_grown hgr3 HB2.out.size hgw)))
  have HR4 := Lib.hid (landRead S g [97, 98, 99, 100] [3] 4 1 3 4 w3 hL3 (by decide) ⟨by decide, by decide⟩ ⟨by decide, by decide⟩ (by decide))
  have HO3 := Lib.hid hown3
  clear e3 e4 e5 hown3 hL3 hgr3 HR
  go_wp2_with fail
  refine HR4.out.mono ?_
  rintro e w4 ⟨v4, rfl, hown4, hL4, hgr4⟩
  have e3 : readL [97, 98, 99, 100] 4 [3] 1 3 4 = [100] := by decide +kernel
  have e4 : readE ([97, 98, 99, 100] : List Int).length 4 3 4 = 0 := by decide +kernel
  have e5 : readN ([97, 98, 99, 100] : List Int).length 4 1 3 4 = 2 := by decide +kernel
  rw [e3] at hown4
  rw [e5] at hL4
  rw [e4]
  obtain ⟨A4, c4, rfl, -⟩ := own_slice hown4
  have hne : (Value.slice A3 3 c3).ownBlock = none ∨ (Value.slice A3 3 c3).ownBlock ≠ some g := by
    by_cases e : (Value.slice A3 3 c3).ownBlock = some g
    · exfalso
      have := (HO3.out.lt g e).1
      omega
    · exact Or.inr e
  have h3 := HO3.out.kept hgr4 hne
  have q1 : (convert 22 9 (.slice A3 3 c3)).run Try.prog w4 = .ok (.string (strOfNums [97, 98, 99])) w4 := conv_own h3 (by decide)
  have q2 : (convert 22 9 (.slice A4 1 c4)).run Try.prog w4 = .ok (.string (strOfNums [100])) w4 := conv_own hown4 (by decide)
  have HB4 := Lib.hid (HB3.out.trans (below_grown hgr4 HB3.out.size hgw))
  have HLL := Lib.hid (landLen S g [97, 98, 99, 100] [3] 4 2 w4 hL4)
  have HRS := Lib.hid (landReads S g [97, 98, 99, 100] [3] 4 2 w4 hL4)
  have m1 : (strOfNums [97, 98, 99]).toList = [97, 98, 99] := by kernel_rfl
  have m2 : (strOfNums [100]).toList = [100] := by kernel_rfl
  obtain ⟨s1, hs1⟩ : ∃ s, strOfNums [97, 98, 99] = s := ⟨_, rfl⟩
  obtain ⟨s2, hs2⟩ : ∃ s, strOfNums [100] = s := ⟨_, rfl⟩
  rw [hs1] at q1 m1
  rw [hs2] at q2 m2
  clear e3 e4 e5 hown4 hL4 hgr4 HR4 h3 hne HO3 hs1 hs2
  go_wp2_with fail
  refine HLL.out.mono ?_
  rintro e w5 ⟨rfl, rfl⟩
  go_wp2_with fail
  refine HRS.out.mono ?_
  rintro e w6 ⟨rfl, rfl⟩
  go_wp2
  go_ret
  exact ⟨rfl, HB4.out⟩

set_option maxHeartbeats 4000000 in
set_option maxRecDepth 100000 in
theorem lawNil (p most : Int) (w : World) : Calls Try.prog 6 #[.int .i64 p, .int .i64 most] w fun e w' => e = .returned (.bool true) ∧ Below w.heap.size w w' := by
  go_enter Try.func6, Try.ntmps6
  go_wp2_with fail
  refine (nilRead p most w).mono ?_
  rintro e w1 ⟨rfl, rfl⟩
  go_wp2_with fail
  refine (nilLen w1).mono ?_
  rintro e w2 ⟨rfl, rfl⟩
  go_wp2_with fail
  refine (nilReads w2).mono ?_
  rintro e w3 ⟨rfl, rfl⟩
  go_wp2_with fail
  refine (lawAwake w3).mono ?_
  rintro e w4 ⟨rfl, hB⟩
  go_wp2
  go_ret
  exact ⟨rfl, hB⟩
end Go.Proofs.Ytidailkpkcgmjaa.Src
