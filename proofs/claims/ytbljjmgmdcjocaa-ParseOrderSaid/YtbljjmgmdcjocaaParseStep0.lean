/-
  The walks of the landed reader's between, aheadKind, beginReg, beginForm, behind and step. By an AI agent.
-/
import Derived.Test.YtbljjmgmdcjocaaParseOper
import Derived.Test.YtbljjmgmdcjocaaParseShut
import Derived.Test.YtbljjmgmdcjocaaLexNameLand
namespace Go.Proofs.Ytbljjmgmdcjocaa.Parse
open Go.RowKit Go.Proofs.Ytbljjmgmdcjocaa.Ints Go.Proofs.Ytbljjmgmdcjocaa.Lex Go.Proofs.Ytbljjmgmdcjocaa.Tree

set_option maxHeartbeats 4000000 in
theorem landBetweenR (u : List UInt8) (w : World) : Calls Try.prog 56 #[.string (Lex.bytes u), .bool true] w fun e w' => e = .returned (.tuple #[.int .i64 ((betwK true u).1 : Int), .int .i64 ((betwK true u).2 : Int)]) ∧ w' = w := by
  have f0 := bytes_is u [43]
  have f1 := bytes_is u [59]
  obtain ⟨z, hz⟩ : ∃ z, Lex.bytes u = z := ⟨_, rfl⟩
  rw [hz] at f0 f1 ⊢
  clear hz
  by_cases h0 : u = [43]
  · rw [decide_eq_true h0] at f0
    subst h0
    clear f1
    go_enter Try.func56, Try.ntmps56
    go_wp2
    go_ret2
    exact ⟨rfl, rfl⟩
  · rw [decide_eq_false h0] at f0
    by_cases h1 : u = [59]
    · rw [decide_eq_true h1] at f1
      subst h1
      go_enter Try.func56, Try.ntmps56
      go_wp2
      go_ret2
      exact ⟨rfl, rfl⟩
    · rw [decide_eq_false h1] at f1
      have he : betwK true u = (0, 0) := by unfold betwK; rw [if_pos rfl, if_neg h0, if_neg h1]
      rw [he]
      clear he h0 h1
      go_enter Try.func56, Try.ntmps56
      go_wp2
      go_ret2
      exact ⟨rfl, rfl⟩
set_option maxHeartbeats 4000000 in
theorem landBetweenF (u : List UInt8) (w : World) : Calls Try.prog 56 #[.string (Lex.bytes u), .bool false] w fun e w' => e = .returned (.tuple #[.int .i64 ((betwK false u).1 : Int), .int .i64 ((betwK false u).2 : Int)]) ∧ w' = w := by
  have f0 := bytes_is u [45, 62]
  have f1 := bytes_is u [124]
  have f2 := bytes_is u [38]
  have f3 := bytes_is u [115, 105, 110, 99, 101]
  have f4 := bytes_is u [117, 110, 116, 105, 108]
  obtain ⟨z, hz⟩ : ∃ z, Lex.bytes u = z := ⟨_, rfl⟩
  rw [hz] at f0 f1 f2 f3 f4 ⊢
  clear hz
  by_cases h0 : u = [45, 62]
  · rw [decide_eq_true h0] at f0
    subst h0
    clear f1 f2 f3 f4
    go_enter Try.func56, Try.ntmps56
    go_wp2
    go_ret2
    exact ⟨rfl, rfl⟩
  · rw [decide_eq_false h0] at f0
    by_cases h1 : u = [124]
    · rw [decide_eq_true h1] at f1
      subst h1
      clear f2 f3 f4
      go_enter Try.func56, Try.ntmps56
      go_wp2
      go_ret2
      exact ⟨rfl, rfl⟩
    · rw [decide_eq_false h1] at f1
      by_cases h2 : u = [38]
      · rw [decide_eq_true h2] at f2
        subst h2
        clear f3 f4
        go_enter Try.func56, Try.ntmps56
        go_wp2
        go_ret2
        exact ⟨rfl, rfl⟩
      · rw [decide_eq_false h2] at f2
        by_cases h3 : u = [115, 105, 110, 99, 101]
        · rw [decide_eq_true h3] at f3
          subst h3
          clear f4
          go_enter Try.func56, Try.ntmps56
          go_wp2
          go_ret2
          exact ⟨rfl, rfl⟩
        · rw [decide_eq_false h3] at f3
          by_cases h4 : u = [117, 110, 116, 105, 108]
          · rw [decide_eq_true h4] at f4
            subst h4
            go_enter Try.func56, Try.ntmps56
            go_wp2
            go_ret2
            exact ⟨rfl, rfl⟩
          · rw [decide_eq_false h4] at f4
            have he : betwK false u = (0, 0) := by unfold betwK; rw [if_neg (by decide), if_neg h0, if_neg h1, if_neg h2, if_neg h3, if_neg h4]
            rw [he]
            clear he h0 h1 h2 h3 h4
            go_enter Try.func56, Try.ntmps56
            go_wp2
            go_ret2
            exact ⟨rfl, rfl⟩
set_option maxHeartbeats 4000000 in
theorem landAheadKind (u : List UInt8) (w : World) : Calls Try.prog 65 #[.string (Lex.bytes u)] w fun e w' => e = .returned (.int .i64 (aheadK u : Int)) ∧ w' = w := by
  have f0 := bytes_is u [33]
  have f1 := bytes_is u [112, 114, 101, 118]
  have f2 := bytes_is u [110, 101, 120, 116]
  have f3 := bytes_is u [111, 110, 99, 101]
  have f4 := bytes_is u [104, 105, 115, 116]
  have f5 := bytes_is u [115, 111, 109, 101]
  have f6 := bytes_is u [97, 108, 108]
  obtain ⟨z, hz⟩ : ∃ z, Lex.bytes u = z := ⟨_, rfl⟩
  rw [hz] at f0 f1 f2 f3 f4 f5 f6 ⊢
  clear hz
  by_cases h0 : u = [33]
  · rw [decide_eq_true h0] at f0
    subst h0
    clear f1 f2 f3 f4 f5 f6
    go_enter Try.func65, Try.ntmps65
    go_wp2
    go_ret
    exact ⟨rfl, rfl⟩
  · rw [decide_eq_false h0] at f0
    by_cases h1 : u = [112, 114, 101, 118]
    · rw [decide_eq_true h1] at f1
      subst h1
      clear f2 f3 f4 f5 f6
      go_enter Try.func65, Try.ntmps65
      go_wp2
      go_ret
      exact ⟨rfl, rfl⟩
    · rw [decide_eq_false h1] at f1
      by_cases h2 : u = [110, 101, 120, 116]
      · rw [decide_eq_true h2] at f2
        subst h2
        clear f3 f4 f5 f6
        go_enter Try.func65, Try.ntmps65
        go_wp2
        go_ret
        exact ⟨rfl, rfl⟩
      · rw [decide_eq_false h2] at f2
        by_cases h3 : u = [111, 110, 99, 101]
        · rw [decide_eq_true h3] at f3
          subst h3
          clear f4 f5 f6
          go_enter Try.func65, Try.ntmps65
          go_wp2
          go_ret
          exact ⟨rfl, rfl⟩
        · rw [decide_eq_false h3] at f3
          by_cases h4 : u = [104, 105, 115, 116]
          · rw [decide_eq_true h4] at f4
            subst h4
            clear f5 f6
            go_enter Try.func65, Try.ntmps65
            go_wp2
            go_ret
            exact ⟨rfl, rfl⟩
          · rw [decide_eq_false h4] at f4
            by_cases h5 : u = [115, 111, 109, 101]
            · rw [decide_eq_true h5] at f5
              subst h5
              clear f6
              go_enter Try.func65, Try.ntmps65
              go_wp2
              go_ret
              exact ⟨rfl, rfl⟩
            · rw [decide_eq_false h5] at f5
              by_cases h6 : u = [97, 108, 108]
              · rw [decide_eq_true h6] at f6
                subst h6
                go_enter Try.func65, Try.ntmps65
                go_wp2
                go_ret
                exact ⟨rfl, rfl⟩
              · rw [decide_eq_false h6] at f6
                have he : aheadK u = 0 := by unfold aheadK; rw [if_neg h0, if_neg h1, if_neg h2, if_neg h3, if_neg h4, if_neg h5, if_neg h6]
                rw [he]
                clear he h0 h1 h2 h3 h4 h5 h6
                go_enter Try.func65, Try.ntmps65
                go_wp2
                go_ret
                exact ⟨rfl, rfl⟩
theorem landBetween (g : Bool) (u : List UInt8) (w : World) : Calls Try.prog 56 #[.string (Lex.bytes u), .bool g] w fun e w' => e = .returned (.tuple #[.int .i64 ((betwK g u).1 : Int), .int .i64 ((betwK g u).2 : Int)]) ∧ w' = w := by
  cases g
  · exact landBetweenF u w
  · exact landBetweenR u w

end Go.Proofs.Ytbljjmgmdcjocaa.Parse
