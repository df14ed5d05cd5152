/-
  The walk of the law ParseTexts, and of same. By an AI agent.
-/
import Derived.Test.YtbehlceacgaebaaParseRRead
import Derived.Test.YtbehlceacgaebaaParseAwake
import Derived.Test.YtbehlceacgaebaaSameNodes
namespace Go.Proofs.Ytbehlceacgaebaa.Parse
open Go.RowKit Go.Proofs.Ytbehlceacgaebaa.Ints Go.Proofs.Ytbehlceacgaebaa.Lex Go.Proofs.Ytbehlceacgaebaa.Tree

set_option maxHeartbeats 8000000 in
set_option maxRecDepth 100000 in
theorem lawSame (s : ByteArray) (w : World) (hs : s.size ≤ maxLen) : Calls Try.prog 4 #[.string s] w fun e w' => e = .returned (.bool true) ∧ Below w.heap.size w w' := by
  have H1 := Lib.hid (fun W => landParse s W hs)
  have H2 := Lib.hid (fun W => refParse s W hs)
  have H3 := Lib.hid (fun W => landRegex s W hs)
  have H4 := Lib.hid (fun W => refRegex s W hs)
  obtain ⟨x, hx⟩ : ∃ x, parseS false s.data.toList = x := ⟨_, rfl⟩
  obtain ⟨y, hy⟩ : ∃ y, parseS true s.data.toList = y := ⟨_, rfl⟩
  rw [hx] at H1 H2
  rw [hy] at H3 H4
  clear hs hx hy
  obtain ⟨l, p, c⟩ := x
  obtain ⟨m, q, d⟩ := y
  go_enter Try.func4, Try.ntmps4
  go_wp2_with fail
  refine (H1.out _).mono ?_
  rintro e w1 ⟨A1, n1, c1, rfl, hn1, hN1, -, -, hb1⟩
  have K1 := Lib.hid (And.intro hn1 hN1)
  have HB1 := Lib.hid hb1
  clear hn1 hN1 hb1
  go_wp2_with fail
  refine (H2.out _).mono ?_
  rintro e w2 ⟨⟨A2, n2, c2, rfl, hn2, hN2, -, -, hb2⟩, hl⟩
  have K2 := Lib.hid (And.intro hn2 hN2)
  have HLL := Lib.hid hl
  have HB2 := Lib.hid (HB1.out.trans (hb2.mono HB1.out.size))
  have HN1 := Lib.hid (K1.out.2.below hb2)
  clear hn2 hN2 hb2 hl
  have HS := Lib.hid (refSameNodes A1 A2 n1 c1 n2 c2 l l w2 K1.out.1 K2.out.1 (by rw [← K1.out.1]; exact Nat.le_trans HLL.out (by decide)) HN1.out K2.out.2)
  rw [decide_eq_true rfl] at HS
  go_wp2_with fail
  refine HS.out.mono ?_
  rintro e w3 ⟨rfl, hb3⟩
  have HB3 := Lib.hid (HB2.out.trans (hb3.mono HB2.out.size))
  clear hb3
  go_wp2_with fail
  refine (H3.out _).mono ?_
  rintro e w4 ⟨A3, n3, c3, rfl, hn3, hN3, -, -, hb4⟩
  have K3 := Lib.hid (And.intro hn3 hN3)
  have HB4 := Lib.hid (HB3.out.trans (hb4.mono HB3.out.size))
  clear hn3 hN3 hb4
  go_wp2_with fail
  refine (H4.out _).mono ?_
  rintro e w5 ⟨⟨A4, n4, c4, rfl, hn4, hN4, -, -, hb5⟩, hl⟩
  have K4 := Lib.hid (And.intro hn4 hN4)
  have HLM := Lib.hid hl
  have HB5 := Lib.hid (HB4.out.trans (hb5.mono HB4.out.size))
  have HN3 := Lib.hid (K3.out.2.below hb5)
  clear hn4 hN4 hb5 hl
  have HS2 := Lib.hid (refSameNodes A3 A4 n3 c3 n4 c4 m m w5 K3.out.1 K4.out.1 (by rw [← K3.out.1]; exact Nat.le_trans HLM.out (by decide)) HN3.out K4.out.2)
  rw [decide_eq_true rfl] at HS2
  go_wp2_with fail
  refine HS2.out.mono ?_
  rintro e w6 ⟨rfl, hb6⟩
  have HB6 := Lib.hid (HB5.out.trans (hb6.mono HB5.out.size))
  clear hb6
  go_wp2_with fail
  go_ret
  exact ⟨rfl, HB6.out⟩
theorem lawTexts (s : ByteArray) (w : World) (hs : s.size ≤ maxLen) : Calls Try.prog 3 #[.string s] w fun e w' => e = .returned (.bool true) ∧ Below w.heap.size w w' := by
  have H1 := Lib.hid (lawSame s w hs)
  have HA := Lib.hid (fun W => awake W)
  clear hs
  go_enter Try.func3, Try.ntmps3
  go_wp2_with fail
  refine H1.out.mono ?_
  rintro e w1 ⟨rfl, hb⟩
  have HB := Lib.hid hb
  clear hb
  go_wp2_with fail
  refine (HA.out _).mono ?_
  rintro e w2 ⟨rfl, hb2⟩
  have HB2 := Lib.hid (HB.out.trans (hb2.mono HB.out.size))
  clear hb2
  go_wp2_with fail
  go_ret
  exact ⟨rfl, HB2.out⟩
end Go.Proofs.Ytbehlceacgaebaa.Parse
