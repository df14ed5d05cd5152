/-
  The walks of the laws LexTexts and LexNames. By an AI agent.
-/
import Derived.Test.YthadjopkfglecaaLexAwake
import Derived.Test.YthadjopkfglecaaLexProgN
import Derived.Test.YthadjopkfglecaaLexLex
import Derived.Test.YthadjopkfglecaaLexName
import Derived.Test.YthadjopkfglecaaLexEq
import Derived.Deep.Draws
namespace Go.Proofs.Ythadjopkfglecaa.Lex
open Go.RowKit

set_option maxHeartbeats 1000000 in
theorem lawTexts (s : ByteArray) (w : World) (hs : s.size ≤ maxLen) :
    Calls Try.prog 3 #[.string s] w fun e w' => e = .returned (.bool true) ∧ Below w.heap.size w w' := by
  have H1 := Lib.hid (fun W => progLex s W hs)
  have H2 := Lib.hid (fun W => refGot s W hs)
  obtain ⟨r, hr⟩ : ∃ r, lexS s.data.toList = r := ⟨_, rfl⟩
  have HLEN := Lib.hid (show r.1.length ≤ 4000 by rw [← hr]; exact lexS_len _)
  rw [hr] at H1 H2
  obtain ⟨l, p, er⟩ := r
  clear hr hs
  go_enter Try.func3, Try.ntmps3
  go_wp2_with fail
  refine (H1.out _).mono ?_
  rintro e w1 ⟨v1, rfl, t1, hB1⟩
  go_wp2_with fail
  refine (H2.out _).mono ?_
  rintro e w2 ⟨v2, rfl, t2, hB2⟩
  have T1 := Lib.hid (t1.keep hB2)
  have T2 := Lib.hid t2
  have HB := Lib.hid (hB1.trans (hB2.mono hB1.size))
  clear t1 t2 hB1 hB2
  go_wp2_with fail
  refine (equalTok _ _ l l w2 HLEN.out HLEN.out T1.out T2.out).mono ?_
  rintro e w3 ⟨rfl, q, rfl⟩
  have hd : decide (l = l) = true := decide_eq_true rfl
  rw [hd]
  clear hd
  go_wp2_with fail
  refine (awake _).mono ?_
  rintro e w4 ⟨rfl, hB4⟩
  have HB2 := Lib.hid ((below_drewN HB.out q).trans (hB4.mono (by have := HB.out.size; simpa using this)))
  clear hB4
  go_wp2
  go_ret
  exact ⟨rfl, HB2.out⟩
set_option maxHeartbeats 1000000 in
theorem lawNames (s : ByteArray) (w : World) (hs : s.size ≤ maxLen) :
    Calls Try.prog 4 #[.string s] w fun e w' => e = .returned (.bool true) ∧ Below w.heap.size w w' := by
  have h1 := fun W => progName s W hs
  have h2 := fun W => refName s W hs
  have h3 := fun W => progLex s W hs
  rcases hb : nameS s.data.toList
  · rw [hb] at h1 h2
    obtain ⟨⟨l, p, er⟩, hr⟩ : ∃ r, lexS s.data.toList = r := ⟨_, rfl⟩
    rw [hr] at h3
    have H1 := Lib.hid h1
    have H2 := Lib.hid h2
    have H3 := Lib.hid h3
    clear h1 h2 h3 hr hb hs
    go_enter Try.func4, Try.ntmps4
    go_wp2_with fail
    refine (H1.out _).mono ?_
    rintro e w1 ⟨rfl, hB1⟩
    have HB1 := Lib.hid hB1
    clear hB1
    go_wp2_with fail
    refine (H2.out _).mono ?_
    rintro e w2 ⟨rfl, rfl⟩
    go_wp2_with fail
    refine (H3.out _).mono ?_
    rintro e w3 ⟨v3, rfl, -, hB3⟩
    have HB3 := Lib.hid (HB1.out.trans (hB3.mono HB1.out.size))
    clear hB3
    go_wp2_with fail
    refine (H1.out _).mono ?_
    rintro e w4 ⟨rfl, hB4⟩
    have HB4 := Lib.hid (HB3.out.trans (hB4.mono HB3.out.size))
    clear hB4
    go_wp2_with fail
    refine (awake _).mono ?_
    rintro e w5 ⟨rfl, hB5⟩
    have HB5 := Lib.hid (HB4.out.trans (hB5.mono HB4.out.size))
    clear hB5
    go_wp2
    go_ret
    exact ⟨rfl, HB5.out⟩
  · rw [name_lex hb] at h3
    rw [hb] at h1 h2
    have H1 := Lib.hid h1
    have H2 := Lib.hid h2
    have H3 := Lib.hid h3
    have hcmp := fun W => tk_eql ⟨1, s.data.toList, 0, 0⟩ ⟨1, s.data.toList, 0, 0⟩ W
    simp only [bytes_self, decide_true] at hcmp
    have hm := guardTok
    clear h1 h2 h3 hb hs
    go_enter Try.func4, Try.ntmps4
    go_wp2_with fail
    refine (H1.out _).mono ?_
    rintro e w1 ⟨rfl, hB1⟩
    have HB1 := Lib.hid hB1
    clear hB1
    go_wp2_with fail
    refine (H2.out _).mono ?_
    rintro e w2 ⟨rfl, rfl⟩
    go_wp2_with fail
    refine (H3.out _).mono ?_
    rintro e w3 ⟨v3, rfl, t3, hB3⟩
    obtain ⟨b3, c3, rfl, hlt, k3⟩ := toks_some t3
    obtain ⟨x1, x2, x3, x4⟩ := k3 0 _ rfl
    have HB3 := Lib.hid (HB1.out.trans (hB3.mono HB1.out.size))
    clear hB3 t3 k3
    go_wp2_with fail
    refine (H1.out _).mono ?_
    rintro e w4 ⟨rfl, hB4⟩
    have y1 : w4.cell? ⟨b3, 0, none⟩ = some (.int .i64 1) := keepc hB4 hlt x1
    have y2 : w4.cell? ⟨b3, 1, none⟩ = some (.string s) := by
      have := keepc hB4 hlt x2
      rw [bytes_self] at this
      exact this
    have y3 : w4.cell? ⟨b3, 2, none⟩ = some (.int .i64 0) := keepc hB4 hlt x3
    have y4 : w4.cell? ⟨b3, 3, none⟩ = some (.int .i64 0) := keepc hB4 hlt x4
    have HB4 := Lib.hid (HB3.out.trans (hB4.mono HB3.out.size))
    clear hB4 x1 x2 x3 x4 hlt
    go_wp2_with fail
    refine (awake _).mono ?_
    rintro e w5 ⟨rfl, hB5⟩
    have HB5 := Lib.hid (HB4.out.trans (hB5.mono HB4.out.size))
    clear hB5
    go_wp2
    go_ret
    exact ⟨rfl, HB5.out⟩
end Go.Proofs.Ythadjopkfglecaa.Lex
