/-
  The part of ShowWord that speaks of functions which not every seat has. By an AI agent.
  The part of ShowBare that speaks of functions which not every seat has. By an AI agent.
-/
import Derived.Test.YtmjfopggehopjaaDoorGShowTells12
import Derived.Test.YtmjfopggehopjaaDoorGShowTells29
import Derived.Test.YtmjfopggehopjaaDoorGShowTells11
namespace Go.Proofs.YtmjfopggehopjaaDoor.Show
open Go.RowKit Go.Proofs.YtmjfopggehopjaaDoor.Tree Go.Proofs.YtmjfopggehopjaaDoor.Itoa Go.Proofs.YtmjfopggehopjaaDoor.Ints

set_option maxHeartbeats 8000000 in
set_option maxRecDepth 100000 in
theorem refWord (nd : Nd) (K : Option Addr) (m c : Nat) (w : World) (hT : Tab10 w) (hk : 1 ≤ nd.kind ∧ nd.kind ≤ 22) :
    Calls Tryd.prog 19 #[.agg #[.int .i64 nd.kind, .string nd.name, .int .i64 nd.lo, .int .i64 nd.hi, .slice K m c]] w fun e w' => e = .returned (.string (Lex.bytes (word nd))) ∧ Below w.heap.size w w' := by
  obtain ⟨kd, nm, lo, hi, ks⟩ := nd
  have hk : 1 ≤ kd ∧ kd ≤ 22 := hk
  show Calls Tryd.prog 19 #[.agg #[.int .i64 kd, .string nm, .int .i64 lo, .int .i64 hi, .slice K m c]] w _
  have hw : kd = 1 ∨ kd = 2 ∨ kd = 3 ∨ kd = 4 ∨ kd = 5 ∨ kd = 6 ∨ kd = 7 ∨ kd = 18 ∨ kd = 19 ∨ kd = 20 ∨ kd = 21 ∨ kd = 22 ∨ kd = 8 ∨ kd = 9 ∨ kd = 10 ∨ kd = 11 ∨ kd = 12 ∨ kd = 13 ∨ kd = 14 ∨ kd = 15 ∨ kd = 16 ∨ kd = 17 := by omega
  have HTM := Lib.hid (fun k W => refTimed k W)
  have HB := Lib.hid ((Below.refl w.heap.size w).alloc (Nat.le_refl _) (.cells #[.int .i64 kd, .string nm, .int .i64 lo, .int .i64 hi, .slice K m c] 34))
  have HT := Lib.hid (hT.later HB.out)
  have HX := Lib.hid (fun W => Ival.refText lo hi W)
  clear hk hT
  rcases hw with rfl | rfl | rfl | rfl | rfl | rfl | rfl | rfl | rfl | rfl | rfl | rfl | hw
  iterate 12
    · go_enter Tryd.func19, Tryd.ntmps19
      go_wp2_with (go_at_call 32; refine (HTM.out _ _).mono ?_; rintro e w' ⟨rfl, rfl⟩)
      go_ret
      exact ⟨rfl, HB.out⟩
  have ix0 : ∀ W, (Instr.index 72 (.agg #[.string { data := #[112, 114, 101, 118] }, .string { data := #[110, 101, 120, 116] }, .string { data := #[111, 110, 99, 101] }, .string { data := #[104, 105, 115, 116] }, .string { data := #[115, 111, 109, 101] }, .string { data := #[97, 108, 108] }, .string { data := #[115, 105, 110, 99, 101] }, .string { data := #[117, 110, 116, 105, 108] }, .string { data := #[98, 97, 99, 107] }, .string { data := #[102, 111, 114, 101] }]) (.int .i64 0)).run Tryd.prog W = .ok (.string { data := #[112, 114, 101, 118] }) W := fun W => by kernel_rfl
  have ix1 : ∀ W, (Instr.index 72 (.agg #[.string { data := #[112, 114, 101, 118] }, .string { data := #[110, 101, 120, 116] }, .string { data := #[111, 110, 99, 101] }, .string { data := #[104, 105, 115, 116] }, .string { data := #[115, 111, 109, 101] }, .string { data := #[97, 108, 108] }, .string { data := #[115, 105, 110, 99, 101] }, .string { data := #[117, 110, 116, 105, 108] }, .string { data := #[98, 97, 99, 107] }, .string { data := #[102, 111, 114, 101] }]) (.int .i64 1)).run Tryd.prog W = .ok (.string { data := #[110, 101, 120, 116] }) W := fun W => by kernel_rfl
  have ix2 : ∀ W, (Instr.index 72 (.agg #[.string { data := #[112, 114, 101, 118] }, .string { data := #[110, 101, 120, 116] }, .string { data := #[111, 110, 99, 101] }, .string { data := #[104, 105, 115, 116] }, .string { data := #[115, 111, 109, 101] }, .string { data := #[97, 108, 108] }, .string { data := #[115, 105, 110, 99, 101] }, .string { data := #[117, 110, 116, 105, 108] }, .string { data := #[98, 97, 99, 107] }, .string { data := #[102, 111, 114, 101] }]) (.int .i64 2)).run Tryd.prog W = .ok (.string { data := #[111, 110, 99, 101] }) W := fun W => by kernel_rfl
  have ix3 : ∀ W, (Instr.index 72 (.agg #[.string { data := #[112, 114, 101, 118] }, .string { data := #[110, 101, 120, 116] }, .string { data := #[111, 110, 99, 101] }, .string { data := #[104, 105, 115, 116] }, .string { data := #[115, 111, 109, 101] }, .string { data := #[97, 108, 108] }, .string { data := #[115, 105, 110, 99, 101] }, .string { data := #[117, 110, 116, 105, 108] }, .string { data := #[98, 97, 99, 107] }, .string { data := #[102, 111, 114, 101] }]) (.int .i64 3)).run Tryd.prog W = .ok (.string { data := #[104, 105, 115, 116] }) W := fun W => by kernel_rfl
  have ix4 : ∀ W, (Instr.index 72 (.agg #[.string { data := #[112, 114, 101, 118] }, .string { data := #[110, 101, 120, 116] }, .string { data := #[111, 110, 99, 101] }, .string { data := #[104, 105, 115, 116] }, .string { data := #[115, 111, 109, 101] }, .string { data := #[97, 108, 108] }, .string { data := #[115, 105, 110, 99, 101] }, .string { data := #[117, 110, 116, 105, 108] }, .string { data := #[98, 97, 99, 107] }, .string { data := #[102, 111, 114, 101] }]) (.int .i64 4)).run Tryd.prog W = .ok (.string { data := #[115, 111, 109, 101] }) W := fun W => by kernel_rfl
  have ix5 : ∀ W, (Instr.index 72 (.agg #[.string { data := #[112, 114, 101, 118] }, .string { data := #[110, 101, 120, 116] }, .string { data := #[111, 110, 99, 101] }, .string { data := #[104, 105, 115, 116] }, .string { data := #[115, 111, 109, 101] }, .string { data := #[97, 108, 108] }, .string { data := #[115, 105, 110, 99, 101] }, .string { data := #[117, 110, 116, 105, 108] }, .string { data := #[98, 97, 99, 107] }, .string { data := #[102, 111, 114, 101] }]) (.int .i64 5)).run Tryd.prog W = .ok (.string { data := #[97, 108, 108] }) W := fun W => by kernel_rfl
  have ix6 : ∀ W, (Instr.index 72 (.agg #[.string { data := #[112, 114, 101, 118] }, .string { data := #[110, 101, 120, 116] }, .string { data := #[111, 110, 99, 101] }, .string { data := #[104, 105, 115, 116] }, .string { data := #[115, 111, 109, 101] }, .string { data := #[97, 108, 108] }, .string { data := #[115, 105, 110, 99, 101] }, .string { data := #[117, 110, 116, 105, 108] }, .string { data := #[98, 97, 99, 107] }, .string { data := #[102, 111, 114, 101] }]) (.int .i64 6)).run Tryd.prog W = .ok (.string { data := #[115, 105, 110, 99, 101] }) W := fun W => by kernel_rfl
  have ix7 : ∀ W, (Instr.index 72 (.agg #[.string { data := #[112, 114, 101, 118] }, .string { data := #[110, 101, 120, 116] }, .string { data := #[111, 110, 99, 101] }, .string { data := #[104, 105, 115, 116] }, .string { data := #[115, 111, 109, 101] }, .string { data := #[97, 108, 108] }, .string { data := #[115, 105, 110, 99, 101] }, .string { data := #[117, 110, 116, 105, 108] }, .string { data := #[98, 97, 99, 107] }, .string { data := #[102, 111, 114, 101] }]) (.int .i64 7)).run Tryd.prog W = .ok (.string { data := #[117, 110, 116, 105, 108] }) W := fun W => by kernel_rfl
  have ix8 : ∀ W, (Instr.index 72 (.agg #[.string { data := #[112, 114, 101, 118] }, .string { data := #[110, 101, 120, 116] }, .string { data := #[111, 110, 99, 101] }, .string { data := #[104, 105, 115, 116] }, .string { data := #[115, 111, 109, 101] }, .string { data := #[97, 108, 108] }, .string { data := #[115, 105, 110, 99, 101] }, .string { data := #[117, 110, 116, 105, 108] }, .string { data := #[98, 97, 99, 107] }, .string { data := #[102, 111, 114, 101] }]) (.int .i64 8)).run Tryd.prog W = .ok (.string { data := #[98, 97, 99, 107] }) W := fun W => by kernel_rfl
  have ix9 : ∀ W, (Instr.index 72 (.agg #[.string { data := #[112, 114, 101, 118] }, .string { data := #[110, 101, 120, 116] }, .string { data := #[111, 110, 99, 101] }, .string { data := #[104, 105, 115, 116] }, .string { data := #[115, 111, 109, 101] }, .string { data := #[97, 108, 108] }, .string { data := #[115, 105, 110, 99, 101] }, .string { data := #[117, 110, 116, 105, 108] }, .string { data := #[98, 97, 99, 107] }, .string { data := #[102, 111, 114, 101] }]) (.int .i64 9)).run Tryd.prog W = .ok (.string { data := #[102, 111, 114, 101] }) W := fun W => by kernel_rfl
  by_cases hs : lo = 0 ∧ hi = -1
  · obtain ⟨rfl, rfl⟩ := hs
    have hsq := fun W => span_neq 0 (-1) 0 (-1) W
    rw [decide_eq_true ⟨rfl, rfl⟩] at hsq
    have hgs := guardSpan
    rcases hw with rfl | rfl | rfl | rfl | rfl | rfl | rfl | rfl | rfl | rfl
    all_goals
      go_enter Tryd.func19, Tryd.ntmps19
      go_wp2_with (go_at_call 32; refine (HTM.out _ _).mono ?_; rintro e w' ⟨rfl, rfl⟩)
      go_ret
      exact ⟨rfl, HB.out⟩
  · have hsq := fun W => span_neq lo hi 0 (-1) W
    rw [decide_eq_false hs] at hsq
    have hgs := guardSpan
    have HSP := Lib.hid (show spanT lo hi = (Ival.textS lo hi).data.toList from if_neg hs)
    have hsz := Ival.textS_size lo hi
    rw [show (Ival.textS lo hi).data.toList.length = (Ival.textS lo hi).size from Array.length_toList] at hsz
    obtain ⟨S, hS⟩ : ∃ S, Ival.textS lo hi = S := ⟨_, rfl⟩
    rw [hS] at HX HSP hsz
    have hsz2 : ¬ 9223372036854775807 < 5 + S.size := by omega
    have hsz3 : ¬ 9223372036854775807 < 4 + S.size := by omega
    have hsz4 : ¬ 9223372036854775807 < 3 + S.size := by omega
    clear hs hS
    rcases hw with rfl | rfl | rfl | rfl | rfl | rfl | rfl | rfl | rfl | rfl
    all_goals
      go_enter Tryd.func19, Tryd.ntmps19
      go_wp2_with (first | (go_at_call 32; refine (HTM.out _ _).mono ?_; rintro e w' ⟨rfl, rfl⟩) | (go_at_call 36; refine (HX.out _ HT.out).mono ?_; rintro e w2 ⟨rfl, hb2⟩; have HB2 := Lib.hid (HB.out.trans (hb2.mono HB.out.size)); clear hb2))
      go_ret
      refine ⟨?_, HB2.out⟩
      rw [word_timed rfl, HSP.out, bytes_join]
      rfl
end Go.Proofs.YtmjfopggehopjaaDoor.Show

namespace Go.Proofs.YtmjfopggehopjaaDoor.Show
open Go.RowKit Go.Proofs.YtmjfopggehopjaaDoor.Tree Go.Proofs.YtmjfopggehopjaaDoor.Itoa Go.Proofs.YtmjfopggehopjaaDoor.Ints

set_option maxHeartbeats 4000000 in
theorem refRank (k : Int) (w : World) : Calls Tryd.prog 35 #[.int .i64 k] w fun e w' => e = .returned (.int .i64 (rank k)) ∧ w = w' := by
  rcases rank_ways k with h | ⟨a1, a2, a3, a4, a5, a6, a7, a8, a9, a10, a11, a12, a13, a14, a15, a16, a17, hr⟩
  · rcases h with rfl | rfl | rfl | rfl | rfl | rfl | rfl | rfl | rfl | rfl | rfl | rfl | rfl | rfl | rfl | rfl | rfl
    all_goals
      go_enter Tryd.func35, Tryd.ntmps35
      go_wp2
      go_ret
      exact ⟨rfl, rfl⟩
  · rw [hr]
    clear hr
    go_enter Tryd.func35, Tryd.ntmps35
    go_wp2
    go_ret
    exact ⟨rfl, rfl⟩
set_option maxHeartbeats 4000000 in
theorem refBare (k c : Int) (i : Nat) (w : World) (hi : (i : Int) ≤ 1000) : Calls Tryd.prog 18 #[.int .i64 k, .int .i64 (i : Int), .int .i64 c] w fun e w' => e = .returned (.bool (bare k i c)) ∧ w = w' := by
  have HA := Lib.hid (fun W => refArity k W)
  have HK := Lib.hid (fun W => refRank k W)
  have HC := Lib.hid (fun W => refRank c W)
  unfold bare
  obtain ⟨x, hx⟩ : ∃ x, rank k = x := ⟨_, rfl⟩
  obtain ⟨y, hy⟩ : ∃ y, rank c = y := ⟨_, rfl⟩
  rw [hx] at HK
  rw [hy] at HC
  rw [hx, hy]
  clear hx hy
  by_cases ha : arity k = 2
  · rw [ha] at HA
    rw [if_pos ha]
    clear ha
    by_cases h1 : x < y
    · rw [decide_eq_true h1, Bool.true_or]
      go_enter Tryd.func18, Tryd.ntmps18
      go_wp2_with (first | (go_at_call 30; refine (HA.out _).mono ?_; rintro e w' ⟨rfl, rfl⟩) | ((with_reducible refine (HC.out _).mono ?_); rintro e w' ⟨rfl, rfl⟩) | ((with_reducible refine (HK.out _).mono ?_); rintro e w' ⟨rfl, rfl⟩))
      go_ret
      exact ⟨rfl, rfl⟩
    · have h1' : decide (x < y) = false := decide_eq_false h1
      rw [h1', Bool.false_or]
      by_cases h2 : i = 0
      · subst h2
        rw [decide_eq_true rfl, Bool.true_and]
        rw [show (decide (y = x)) = (y == x) from by rw [Bool.eq_iff_iff]; simp]
        clear h1
        go_enter Tryd.func18, Tryd.ntmps18
        go_wp2_with (first | (go_at_call 30; refine (HA.out _).mono ?_; rintro e w' ⟨rfl, rfl⟩) | ((with_reducible refine (HC.out _).mono ?_); rintro e w' ⟨rfl, rfl⟩) | ((with_reducible refine (HK.out _).mono ?_); rintro e w' ⟨rfl, rfl⟩))
        go_ret
        exact ⟨rfl, rfl⟩
      · rw [decide_eq_false h2, Bool.false_and]
        have h3 : ((i : Int) == 0) = false := beq_eq_false_iff_ne.2 (by omega)
        have h4 : (i == 0) = false := beq_eq_false_iff_ne.2 h2
        clear h1 h2
        go_enter Tryd.func18, Tryd.ntmps18
        go_wp2_with (first | (go_at_call 30; refine (HA.out _).mono ?_; rintro e w' ⟨rfl, rfl⟩) | ((with_reducible refine (HC.out _).mono ?_); rintro e w' ⟨rfl, rfl⟩) | ((with_reducible refine (HK.out _).mono ?_); rintro e w' ⟨rfl, rfl⟩))
        go_ret
        exact ⟨rfl, rfl⟩
  · rw [if_neg ha]
    have ha2 : (arity k == 2) = false := beq_eq_false_iff_ne.2 ha
    obtain ⟨r, hr⟩ : ∃ r, arity k = r := ⟨_, rfl⟩
    rw [hr] at HA ha2
    clear ha hr
    by_cases h16 : k = 16 ∨ k = 17
    · rw [if_pos h16]
      rcases h16 with rfl | rfl
      all_goals
        go_enter Tryd.func18, Tryd.ntmps18
        go_wp2_with (first | (go_at_call 30; refine (HA.out _).mono ?_; rintro e w' ⟨rfl, rfl⟩) | ((with_reducible refine (HC.out _).mono ?_); rintro e w' ⟨rfl, rfl⟩) | ((with_reducible refine (HK.out _).mono ?_); rintro e w' ⟨rfl, rfl⟩))
        go_ret
        exact ⟨rfl, rfl⟩
    · rw [if_neg h16]
      have k16 : (k == 16) = false := beq_eq_false_iff_ne.2 (by omega)
      have k17 : (k == 17) = false := beq_eq_false_iff_ne.2 (by omega)
      by_cases h22 : k = 22
      · rw [if_pos h22]
        subst h22
        clear h16 k16 k17
        go_enter Tryd.func18, Tryd.ntmps18
        go_wp2_with (first | (go_at_call 30; refine (HA.out _).mono ?_; rintro e w' ⟨rfl, rfl⟩) | ((with_reducible refine (HC.out _).mono ?_); rintro e w' ⟨rfl, rfl⟩) | ((with_reducible refine (HK.out _).mono ?_); rintro e w' ⟨rfl, rfl⟩))
        go_ret
        exact ⟨rfl, rfl⟩
      · rw [if_neg h22]
        have k22 : (k == 22) = false := beq_eq_false_iff_ne.2 h22
        clear h16 h22
        go_enter Tryd.func18, Tryd.ntmps18
        go_wp2_with (first | (go_at_call 30; refine (HA.out _).mono ?_; rintro e w' ⟨rfl, rfl⟩) | ((with_reducible refine (HC.out _).mono ?_); rintro e w' ⟨rfl, rfl⟩) | ((with_reducible refine (HK.out _).mono ?_); rintro e w' ⟨rfl, rfl⟩))
        go_ret
        exact ⟨rfl, rfl⟩
end Go.Proofs.YtmjfopggehopjaaDoor.Show
