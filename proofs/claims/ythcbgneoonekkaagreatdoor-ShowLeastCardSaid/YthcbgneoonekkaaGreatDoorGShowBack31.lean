/-
  The walks of the landed reader's between, aheadKind, beginReg, beginForm, behind and step. The walks of the landed reader's beginReg and beginForm.
    Made of several texts by wip/tools/mergetpl.py. By an AI agent.
-/
import Derived.Test.YthcbgneoonekkaaGreatDoorGShowBack30
import Derived.Test.YthcbgneoonekkaaGreatDoorGShowBack13
/- The walks of the landed reader's between, aheadKind, beginReg, beginForm, behind and step. By an AI agent. -/
namespace Go.Proofs.YthcbgneoonekkaaGreatDoor.Parse
open Go.RowKit Go.Proofs.YthcbgneoonekkaaGreatDoor.Ints Go.Proofs.YthcbgneoonekkaaGreatDoor.Lex Go.Proofs.YthcbgneoonekkaaGreatDoor.Tree

set_option maxHeartbeats 4000000 in
theorem landBetweenR (u : List UInt8) (w : World) : Calls Tryz.prog 71 #[.string (Lex.bytes u), .bool true] w fun e w' => e = .returned (.tuple #[.int .i64 ((betwK true u).1 : Int), .int .i64 ((betwK true u).2 : Int)]) ∧ w' = w := by
  have f0 := bytes_is u [43]
  have f1 := bytes_is u [59]
  obtain ⟨z, hz⟩ : ∃ z, Lex.bytes u = z := ⟨_, rfl⟩
  rw [hz] at f0 f1 ⊢
  clear hz
  by_cases h0 : u = [43]
  · rw [decide_eq_true h0] at f0
    subst h0
    clear f1
    go_enter Tryz.func71, Tryz.ntmps71
    go_wp2
    go_ret2
    exact ⟨rfl, rfl⟩
  · rw [decide_eq_false h0] at f0
    by_cases h1 : u = [59]
    · rw [decide_eq_true h1] at f1
      subst h1
      go_enter Tryz.func71, Tryz.ntmps71
      go_wp2
      go_ret2
      exact ⟨rfl, rfl⟩
    · rw [decide_eq_false h1] at f1
      have he : betwK true u = (0, 0) := by unfold betwK; rw [if_pos rfl, if_neg h0, if_neg h1]
      rw [he]
      clear he h0 h1
      go_enter Tryz.func71, Tryz.ntmps71
      go_wp2
      go_ret2
      exact ⟨rfl, rfl⟩
set_option maxHeartbeats 4000000 in
theorem landBetweenF (u : List UInt8) (w : World) : Calls Tryz.prog 71 #[.string (Lex.bytes u), .bool false] w fun e w' => e = .returned (.tuple #[.int .i64 ((betwK false u).1 : Int), .int .i64 ((betwK false u).2 : Int)]) ∧ w' = w := by
  have f0 := bytes_is u [45, 62]
  have f1 := bytes_is u [124]
  have f2 := bytes_is u [38]
  have f3 := bytes_is u [115, 105, 110, 99, 101]
  have f4 := bytes_is u [117, 110, 116, 105, 108]
  obtain ⟨z, hz⟩ : ∃ z, Lex.bytes u = z := ⟨_, rfl⟩
  rw [hz] at f0 f1 f2 f3 f4 ⊢
  clear hz
  by_cases h0 : u = [45, 62]
  · rw [decide_eq_true h0] at f0
    subst h0
    clear f1 f2 f3 f4
    go_enter Tryz.func71, Tryz.ntmps71
    go_wp2
    go_ret2
    exact ⟨rfl, rfl⟩
  · rw [decide_eq_false h0] at f0
    by_cases h1 : u = [124]
    · rw [decide_eq_true h1] at f1
      subst h1
      clear f2 f3 f4
      go_enter Tryz.func71, Tryz.ntmps71
      go_wp2
      go_ret2
      exact ⟨rfl, rfl⟩
    · rw [decide_eq_false h1] at f1
      by_cases h2 : u = [38]
      · rw [decide_eq_true h2] at f2
        subst h2
        clear f3 f4
        go_enter Tryz.func71, Tryz.ntmps71
        go_wp2
        go_ret2
        exact ⟨rfl, rfl⟩
      · rw [decide_eq_false h2] at f2
        by_cases h3 : u = [115, 105, 110, 99, 101]
        · rw [decide_eq_true h3] at f3
          subst h3
          clear f4
          go_enter Tryz.func71, Tryz.ntmps71
          go_wp2
          go_ret2
          exact ⟨rfl, rfl⟩
        · rw [decide_eq_false h3] at f3
          by_cases h4 : u = [117, 110, 116, 105, 108]
          · rw [decide_eq_true h4] at f4
            subst h4
            go_enter Tryz.func71, Tryz.ntmps71
            go_wp2
            go_ret2
            exact ⟨rfl, rfl⟩
          · rw [decide_eq_false h4] at f4
            have he : betwK false u = (0, 0) := by unfold betwK; rw [if_neg (by decide), if_neg h0, if_neg h1, if_neg h2, if_neg h3, if_neg h4]
            rw [he]
            clear he h0 h1 h2 h3 h4
            go_enter Tryz.func71, Tryz.ntmps71
            go_wp2
            go_ret2
            exact ⟨rfl, rfl⟩
set_option maxHeartbeats 4000000 in
theorem landAheadKind (u : List UInt8) (w : World) : Calls Tryz.prog 79 #[.string (Lex.bytes u)] w fun e w' => e = .returned (.int .i64 (aheadK u : Int)) ∧ w' = w := by
  have f0 := bytes_is u [33]
  have f1 := bytes_is u [112, 114, 101, 118]
  have f2 := bytes_is u [110, 101, 120, 116]
  have f3 := bytes_is u [111, 110, 99, 101]
  have f4 := bytes_is u [104, 105, 115, 116]
  have f5 := bytes_is u [115, 111, 109, 101]
  have f6 := bytes_is u [97, 108, 108]
  obtain ⟨z, hz⟩ : ∃ z, Lex.bytes u = z := ⟨_, rfl⟩
  rw [hz] at f0 f1 f2 f3 f4 f5 f6 ⊢
  clear hz
  by_cases h0 : u = [33]
  · rw [decide_eq_true h0] at f0
    subst h0
    clear f1 f2 f3 f4 f5 f6
    go_enter Tryz.func79, Tryz.ntmps79
    go_wp2
    go_ret
    exact ⟨rfl, rfl⟩
  · rw [decide_eq_false h0] at f0
    by_cases h1 : u = [112, 114, 101, 118]
    · rw [decide_eq_true h1] at f1
      subst h1
      clear f2 f3 f4 f5 f6
      go_enter Tryz.func79, Tryz.ntmps79
      go_wp2
      go_ret
      exact ⟨rfl, rfl⟩
    · rw [decide_eq_false h1] at f1
      by_cases h2 : u = [110, 101, 120, 116]
      · rw [decide_eq_true h2] at f2
        subst h2
        clear f3 f4 f5 f6
        go_enter Tryz.func79, Tryz.ntmps79
        go_wp2
        go_ret
        exact ⟨rfl, rfl⟩
      · rw [decide_eq_false h2] at f2
        by_cases h3 : u = [111, 110, 99, 101]
        · rw [decide_eq_true h3] at f3
          subst h3
          clear f4 f5 f6
          go_enter Tryz.func79, Tryz.ntmps79
          go_wp2
          go_ret
          exact ⟨rfl, rfl⟩
        · rw [decide_eq_false h3] at f3
          by_cases h4 : u = [104, 105, 115, 116]
          · rw [decide_eq_true h4] at f4
            subst h4
            clear f5 f6
            go_enter Tryz.func79, Tryz.ntmps79
            go_wp2
            go_ret
            exact ⟨rfl, rfl⟩
          · rw [decide_eq_false h4] at f4
            by_cases h5 : u = [115, 111, 109, 101]
            · rw [decide_eq_true h5] at f5
              subst h5
              clear f6
              go_enter Tryz.func79, Tryz.ntmps79
              go_wp2
              go_ret
              exact ⟨rfl, rfl⟩
            · rw [decide_eq_false h5] at f5
              by_cases h6 : u = [97, 108, 108]
              · rw [decide_eq_true h6] at f6
                subst h6
                go_enter Tryz.func79, Tryz.ntmps79
                go_wp2
                go_ret
                exact ⟨rfl, rfl⟩
              · rw [decide_eq_false h6] at f6
                have he : aheadK u = 0 := by unfold aheadK; rw [if_neg h0, if_neg h1, if_neg h2, if_neg h3, if_neg h4, if_neg h5, if_neg h6]
                rw [he]
                clear he h0 h1 h2 h3 h4 h5 h6
                go_enter Tryz.func79, Tryz.ntmps79
                go_wp2
                go_ret
                exact ⟨rfl, rfl⟩
theorem landBetween (g : Bool) (u : List UInt8) (w : World) : Calls Tryz.prog 71 #[.string (Lex.bytes u), .bool g] w fun e w' => e = .returned (.tuple #[.int .i64 ((betwK g u).1 : Int), .int .i64 ((betwK g u).2 : Int)]) ∧ w' = w := by
  cases g
  · exact landBetweenF u w
  · exact landBetweenR u w

end Go.Proofs.YthcbgneoonekkaaGreatDoor.Parse

/- The walks of the landed reader's beginReg and beginForm. By an AI agent. -/
namespace Go.Proofs.YthcbgneoonekkaaGreatDoor.Parse
open Go.RowKit Go.Proofs.YthcbgneoonekkaaGreatDoor.Ints Go.Proofs.YthcbgneoonekkaaGreatDoor.Lex Go.Proofs.YthcbgneoonekkaaGreatDoor.Tree

theorem StepGot.val {base g : Nat} {ts : List Tk} {w w' : World} {x : Except Fail PS} {e : Ending} (h : StepGot base g ts w x e w') : ∃ c : Int, e = .returned (.int .i64 c) := by
  cases x with
  | ok τ => exact ⟨_, h.1⟩
  | error y => exact ⟨_, h.2.1⟩
theorem Good.depth {M e : Nat} {σ : PS} (h : Good M e σ) : (topE σ.opn).depth ≤ 40 := by
  obtain ⟨x, K, hx⟩ := h.split
  rw [hx]
  exact (h.ents x (by rw [hx]; exact List.mem_cons_self)).depth
theorem pre_brace {g : Bool} {t : List UInt8} (h : leafOf g t = none) (h1 : t ≠ [40]) (h2 : braceOf g t = 0) {σ : PS} (hr : textOf σ.rest = t) : beginM g σ = aheadM (preOf g t) σ := by
  subst hr
  exact begin_pre h h1 h2

set_option maxHeartbeats 8000000 in
theorem landBeginReg (base g M : Nat) (ts : List Tk) (σ : PS) (w : World) (h : PMemE (Aw none) w base g ts σ) (hf : Fit M 0 σ) (hM : M ≤ 5000) (hl : ts.length ≤ 5000) :
    Calls Tryz.prog 62 #[.pointer (some ⟨g, 0, none⟩)] w (StepGot base g ts w (beginM true σ)) := by
  have HM := Lib.hid h
  have HF := Lib.hid hf
  have HL := Lib.hid (And.intro hM hl)
  obtain ⟨t, r, hr, htk, -, ht16, -⟩ := hf.toks.split
  have HR := Lib.hid hr
  have HD := Lib.hid hf.good.depth
  have HKN := Lib.hid (fun (hne : textOf σ.rest ≠ []) => kind_end hf.toks.allOk hne)
  have htx : textOf σ.rest = t.text := by rw [hr]; rfl
  have HTX := Lib.hid htx
  have q1 := fieldT1 t.kind (Lex.bytes t.text) t.num t.pos
  have f0 := bytes_is t.text [46]
  have f1 := bytes_is t.text [63]
  have f2 := bytes_is t.text [40]
  obtain ⟨z, hz⟩ : ∃ z, Lex.bytes t.text = z := ⟨_, rfl⟩
  rw [hz] at f0 f1 f2 q1
  have HZ := Lib.hid hz
  by_cases h0 : t.text = [46]
  · rw [decide_eq_true h0] at f0
    have HT := Lib.hid h0
    have HE := Lib.hid (show beginM true σ = leafM ⟨18, ⟨#[]⟩, 0, 0, []⟩ σ from begin_leaf (by rw [htx, h0]; rfl))
    clear h hf hM hl hr htk ht16 htx hz h0 f1 f2
    go_enter Tryz.func62, Tryz.ntmps62
    go_wp2_with fail
    have htok := landTok base g ts σ t r _ HM.out HR.out HL.out.2
    rw [HZ.out] at htok
    refine htok.mono ?_
    rintro e w1 ⟨rfl, hb1⟩
    have HM1 := Lib.hid (HM.out.later hb1)
    have HF1 := Lib.hid (Fr.later (bx := none) hb1 HM.out.base)
    clear hb1 htok
    go_wp2_with fail
    refine (landLeaf base g M ts σ ⟨18, ⟨#[]⟩, 0, 0, []⟩ _ HM1.out HF.out HL.out.1 HL.out.2 (HKN.out (by rw [HTX.out, HT.out]; decide)) ⟨by unfold small64; decide, by unfold small64; decide, by unfold small64; decide, Nat.zero_le _⟩).mono ?_
    intro e w9 h9
    obtain ⟨c, rfl⟩ := h9.val
    have H9 := Lib.hid (h9.trans HF1.out)
    clear h9
    go_wp2_with fail
    go_ret
    rw [HE.out]
    exact H9.out
  · rw [decide_eq_false h0] at f0
    by_cases h1 : t.text = [63]
    · rw [decide_eq_true h1] at f1
      have HT := Lib.hid h1
      have HE := Lib.hid (show beginM true σ = aheadM 19 σ by rw [pre_brace (g := true) (t := t.text) (by rw [h1]; rfl) (by rw [h1]; decide) rfl htx, h1]; rfl)
      clear h hf hM hl hr htk ht16 htx hz h0 h1 f2
      go_enter Tryz.func62, Tryz.ntmps62
      go_wp2_with fail
      have htok := landTok base g ts σ t r _ HM.out HR.out HL.out.2
      rw [HZ.out] at htok
      refine htok.mono ?_
      rintro e w1 ⟨rfl, hb1⟩
      have HM1 := Lib.hid (HM.out.later hb1)
      have HF1 := Lib.hid (Fr.later (bx := none) hb1 HM.out.base)
      clear hb1 htok
      go_wp2_with fail
      refine (landAhead base g M ts σ 19 _ HM1.out HF.out HL.out.1 HL.out.2 (fun _ => HKN.out (by rw [HTX.out, HT.out]; decide)) HD.out).mono ?_
      intro e w9 h9
      obtain ⟨c, rfl⟩ := h9.val
      have H9 := Lib.hid (h9.trans HF1.out)
      clear h9
      go_wp2_with fail
      go_ret
      rw [HE.out]
      exact H9.out
    · rw [decide_eq_false h1] at f1
      by_cases h2 : t.text = [40]
      · rw [decide_eq_true h2] at f2
        have HT := Lib.hid h2
        have HE := Lib.hid (show beginM true σ = bracketM ⟨0, 0, 0, 0, 0, [41], true, 0⟩ σ from begin_par (htx.trans h2))
        clear h hf hM hl hr htk ht16 htx hz h0 h1 h2
        go_enter Tryz.func62, Tryz.ntmps62
        go_wp2_with fail
        have htok := landTok base g ts σ t r _ HM.out HR.out HL.out.2
        rw [HZ.out] at htok
        refine htok.mono ?_
        rintro e w1 ⟨rfl, hb1⟩
        have HM1 := Lib.hid (HM.out.later hb1)
        have HF1 := Lib.hid (Fr.later (bx := none) hb1 HM.out.base)
        clear hb1 htok
        go_wp2_with fail
        refine (landBracket base g M ts σ ⟨0, 0, 0, 0, 0, [41], true, 0⟩ _ HM1.out HF.out HL.out.1 HL.out.2 (HKN.out (by rw [HTX.out, HT.out]; decide)) HD.out).mono ?_
        intro e w9 h9
        obtain ⟨c, rfl⟩ := h9.val
        have H9 := Lib.hid (h9.trans HF1.out)
        clear h9
        go_wp2_with fail
        go_ret
        rw [HE.out]
        exact H9.out
      · rw [decide_eq_false h2] at f2
        have HE := Lib.hid (show beginM true σ = .error (2, posOf σ.rest) by rw [pre_brace (g := true) (t := t.text) (by unfold leafOf; rw [if_pos rfl, if_neg h0]) h2 rfl htx]; unfold preOf aheadM; rw [if_pos rfl, if_neg h1]; exact if_pos rfl)
        clear h hf hM hl hr htk ht16 htx hz h0 h1 h2
        go_enter Tryz.func62, Tryz.ntmps62
        go_wp2_with fail
        have htok := landTok base g ts σ t r _ HM.out HR.out HL.out.2
        rw [HZ.out] at htok
        refine htok.mono ?_
        rintro e w1 ⟨rfl, hb1⟩
        have HM1 := Lib.hid (HM.out.later hb1)
        have HF1 := Lib.hid (Fr.later (bx := none) hb1 HM.out.base)
        clear hb1 htok
        go_wp2_with fail
        go_ret
        rw [HE.out]
        exact StepGot.bad (by decide) HF.out.toks rfl HM1.out HF1.out

set_option maxHeartbeats 16000000 in
theorem landBeginForm (base g M : Nat) (ts : List Tk) (σ : PS) (w : World) (h : PMemE (Aw none) w base g ts σ) (hf : Fit M 0 σ) (hM : M ≤ 5000) (hl : ts.length ≤ 5000) :
    Calls Tryz.prog 63 #[.pointer (some ⟨g, 0, none⟩)] w (StepGot base g ts w (beginM false σ)) := by
  have HM := Lib.hid h
  have HF := Lib.hid hf
  have HL := Lib.hid (And.intro hM hl)
  obtain ⟨t, r, hr, htk, -, ht16, -⟩ := hf.toks.split
  have HR := Lib.hid hr
  have HD := Lib.hid hf.good.depth
  have HKN := Lib.hid (fun (hne : textOf σ.rest ≠ []) => kind_end hf.toks.allOk hne)
  have htx : textOf σ.rest = t.text := by rw [hr]; rfl
  have HTX := Lib.hid htx
  have q1 := fieldT1 t.kind (Lex.bytes t.text) t.num t.pos
  have f0 := bytes_is t.text [116, 114, 117, 101]
  have f1 := bytes_is t.text [102, 97, 108, 115, 101]
  have f2 := bytes_is t.text [40]
  have f3 := bytes_is t.text [98, 97, 99, 107]
  have f4 := bytes_is t.text [102, 111, 114, 101]
  have HNM := Lib.hid (fun W => progName (Lex.bytes t.text) W (by show t.text.toArray.size ≤ maxLen; have : maxLen = 9223372036854775807 := rfl; simp; omega))
  have hnm : nameS (Lex.bytes t.text).data.toList = nameS t.text := rfl
  rw [hnm] at HNM
  have HAK := Lib.hid (fun W => landAheadKind t.text W)
  obtain ⟨z, hz⟩ : ∃ z, Lex.bytes t.text = z := ⟨_, rfl⟩
  rw [hz] at f0 f1 f2 f3 f4 q1 HNM HAK
  have HZ := Lib.hid hz
  by_cases h0 : t.text = [116, 114, 117, 101]
  · rw [decide_eq_true h0] at f0
    have HT := Lib.hid h0
    have HE := Lib.hid (show beginM false σ = leafM ⟨1, ⟨#[]⟩, 0, 0, []⟩ σ from begin_leaf (by unfold leafOf; rw [if_neg (by decide), if_pos (htx.trans h0)]))
    clear h hf hM hl hr htk ht16 htx hz hnm h0 f1 f2 f3 f4
    go_enter Tryz.func63, Tryz.ntmps63
    go_wp2_with fail
    have htok := landTok base g ts σ t r _ HM.out HR.out HL.out.2
    rw [HZ.out] at htok
    refine htok.mono ?_
    rintro e w1 ⟨rfl, hb1⟩
    have HM1 := Lib.hid (HM.out.later hb1)
    have HF1 := Lib.hid (Fr.later (bx := none) hb1 HM.out.base)
    clear hb1 htok
    go_wp2_with fail
    refine (landLeaf base g M ts σ ⟨1, ⟨#[]⟩, 0, 0, []⟩ _ HM1.out HF.out HL.out.1 HL.out.2 (HKN.out (by rw [HTX.out, HT.out]; decide)) ⟨by unfold small64; decide, by unfold small64; decide, by unfold small64; decide, Nat.zero_le _⟩).mono ?_
    intro e w9 h9
    obtain ⟨c, rfl⟩ := h9.val
    have H9 := Lib.hid (h9.trans HF1.out)
    clear h9
    go_wp2_with fail
    go_ret
    rw [HE.out]
    exact H9.out
  · rw [decide_eq_false h0] at f0
    by_cases h1 : t.text = [102, 97, 108, 115, 101]
    · rw [decide_eq_true h1] at f1
      have HT := Lib.hid h1
      have HE := Lib.hid (show beginM false σ = leafM ⟨2, ⟨#[]⟩, 0, 0, []⟩ σ from begin_leaf (by unfold leafOf; rw [if_neg (by decide), if_neg (fun h => h0 (htx.symm.trans h)), if_pos (htx.trans h1)]))
      clear h hf hM hl hr htk ht16 htx hz hnm h0 h1 f2 f3 f4
      go_enter Tryz.func63, Tryz.ntmps63
      go_wp2_with fail
      have htok := landTok base g ts σ t r _ HM.out HR.out HL.out.2
      rw [HZ.out] at htok
      refine htok.mono ?_
      rintro e w1 ⟨rfl, hb1⟩
      have HM1 := Lib.hid (HM.out.later hb1)
      have HF1 := Lib.hid (Fr.later (bx := none) hb1 HM.out.base)
      clear hb1 htok
      go_wp2_with fail
      refine (landLeaf base g M ts σ ⟨2, ⟨#[]⟩, 0, 0, []⟩ _ HM1.out HF.out HL.out.1 HL.out.2 (HKN.out (by rw [HTX.out, HT.out]; decide)) ⟨by unfold small64; decide, by unfold small64; decide, by unfold small64; decide, Nat.zero_le _⟩).mono ?_
      intro e w9 h9
      obtain ⟨c, rfl⟩ := h9.val
      have H9 := Lib.hid (h9.trans HF1.out)
      clear h9
      go_wp2_with fail
      go_ret
      rw [HE.out]
      exact H9.out
    · rw [decide_eq_false h1] at f1
      by_cases hn : nameS t.text = true
      · rw [hn] at HNM
        have HT := Lib.hid hn
        have HE := Lib.hid (show beginM false σ = leafM ⟨3, Lex.bytes t.text, 0, 0, []⟩ σ from begin_leaf (by rw [htx]; unfold leafOf; rw [if_neg (by decide), if_neg h0, if_neg h1, if_pos hn]))
        rw [hz] at HE
        have HS16 := Lib.hid (show z.size ≤ maxLen by rw [← hz]; show t.text.toArray.size ≤ maxLen; have : maxLen = 9223372036854775807 := rfl; simp; omega)
        have HNE := Lib.hid (show textOf σ.rest ≠ [] by rw [htx]; obtain ⟨c, r, e, -⟩ := name_head hn; rw [e]; simp)
        clear h hf hM hl hr htk ht16 htx hz hnm h0 h1 hn f2 f3 f4
        go_enter Tryz.func63, Tryz.ntmps63
        go_wp2_with fail
        have htok := landTok base g ts σ t r _ HM.out HR.out HL.out.2
        rw [HZ.out] at htok
        refine htok.mono ?_
        rintro e w1 ⟨rfl, hb1⟩
        have HM1 := Lib.hid (HM.out.later hb1)
        have HF1 := Lib.hid (Fr.later (bx := none) hb1 HM.out.base)
        clear hb1 htok
        go_wp2_with fail
        refine (HNM.out _).mono ?_
        rintro e w2 ⟨rfl, hb2⟩
        replace HF1 := Lib.hid (HF1.out.trans (Fr.later hb2 HM1.out.base))
        replace HM1 := Lib.hid (HM1.out.later hb2)
        clear hb2
        go_wp2_with fail
        refine (landLeaf base g M ts σ ⟨3, z, 0, 0, []⟩ _ HM1.out HF.out HL.out.1 HL.out.2 (HKN.out HNE.out) ⟨show small64 3 by unfold small64; decide, show small64 0 by unfold small64; decide, show small64 0 by unfold small64; decide, HS16.out⟩).mono ?_
        intro e w9 h9
        obtain ⟨c, rfl⟩ := h9.val
        have H9 := Lib.hid (h9.trans HF1.out)
        clear h9
        go_wp2_with fail
        go_ret
        rw [HE.out]
        exact H9.out
      · rw [Bool.eq_false_iff.2 hn] at HNM
        have hlf : leafOf false t.text = none := by unfold leafOf; rw [if_neg (by decide), if_neg h0, if_neg h1, if_neg hn]
        by_cases h2 : t.text = [40]
        · rw [decide_eq_true h2] at f2
          have HT := Lib.hid h2
          have HE := Lib.hid (show beginM false σ = bracketM ⟨0, 0, 0, 0, 0, [41], false, 0⟩ σ from begin_par (htx.trans h2))
          clear h hf hM hl hr htk ht16 htx hz hnm h0 h1 h2 hn hlf f3 f4
          go_enter Tryz.func63, Tryz.ntmps63
          go_wp2_with fail
          have htok := landTok base g ts σ t r _ HM.out HR.out HL.out.2
          rw [HZ.out] at htok
          refine htok.mono ?_
          rintro e w1 ⟨rfl, hb1⟩
          have HM1 := Lib.hid (HM.out.later hb1)
          have HF1 := Lib.hid (Fr.later (bx := none) hb1 HM.out.base)
          clear hb1 htok
          go_wp2_with fail
          refine (HNM.out _).mono ?_
          rintro e w2 ⟨rfl, hb2⟩
          replace HF1 := Lib.hid (HF1.out.trans (Fr.later hb2 HM1.out.base))
          replace HM1 := Lib.hid (HM1.out.later hb2)
          clear hb2
          go_wp2_with fail
          refine (landBracket base g M ts σ ⟨0, 0, 0, 0, 0, [41], false, 0⟩ _ HM1.out HF.out HL.out.1 HL.out.2 (HKN.out (by rw [HTX.out, HT.out]; decide)) HD.out).mono ?_
          intro e w9 h9
          obtain ⟨c, rfl⟩ := h9.val
          have H9 := Lib.hid (h9.trans HF1.out)
          clear h9
          go_wp2_with fail
          go_ret
          rw [HE.out]
          exact H9.out
        · rw [decide_eq_false h2] at f2
          by_cases h3 : t.text = [98, 97, 99, 107]
          · rw [decide_eq_true h3] at f3
            have HT := Lib.hid h3
            have hbr : braceOf false (textOf σ.rest) = 16 := by rw [htx, h3]; rfl
            have HE := Lib.hid (show beginM false σ = bracesM 16 σ by rw [begin_brace (by rw [hbr]; decide), hbr])
            clear h hf hM hl hr htk ht16 htx hz hnm h0 h1 h2 h3 hn hlf hbr f4
            go_enter Tryz.func63, Tryz.ntmps63
            go_wp2_with fail
            have htok := landTok base g ts σ t r _ HM.out HR.out HL.out.2
            rw [HZ.out] at htok
            refine htok.mono ?_
            rintro e w1 ⟨rfl, hb1⟩
            have HM1 := Lib.hid (HM.out.later hb1)
            have HF1 := Lib.hid (Fr.later (bx := none) hb1 HM.out.base)
            clear hb1 htok
            go_wp2_with fail
            refine (HNM.out _).mono ?_
            rintro e w2 ⟨rfl, hb2⟩
            replace HF1 := Lib.hid (HF1.out.trans (Fr.later hb2 HM1.out.base))
            replace HM1 := Lib.hid (HM1.out.later hb2)
            clear hb2
            go_wp2_with fail
            refine (landBraces base g M ts σ 16 _ HM1.out HF.out HL.out.1 HL.out.2 (HKN.out (by rw [HTX.out, HT.out]; decide)) HD.out).mono ?_
            intro e w9 h9
            obtain ⟨c, rfl⟩ := h9.val
            have H9 := Lib.hid (h9.trans HF1.out)
            clear h9
            go_wp2_with fail
            go_ret
            rw [HE.out]
            exact H9.out
          · rw [decide_eq_false h3] at f3
            by_cases h4 : t.text = [102, 111, 114, 101]
            · rw [decide_eq_true h4] at f4
              have HT := Lib.hid h4
              have hbr : braceOf false (textOf σ.rest) = 17 := by rw [htx, h4]; rfl
              have HE := Lib.hid (show beginM false σ = bracesM 17 σ by rw [begin_brace (by rw [hbr]; decide), hbr])
              clear h hf hM hl hr htk ht16 htx hz hnm h0 h1 h2 h3 h4 hn hlf hbr 
              go_enter Tryz.func63, Tryz.ntmps63
              go_wp2_with fail
              have htok := landTok base g ts σ t r _ HM.out HR.out HL.out.2
              rw [HZ.out] at htok
              refine htok.mono ?_
              rintro e w1 ⟨rfl, hb1⟩
              have HM1 := Lib.hid (HM.out.later hb1)
              have HF1 := Lib.hid (Fr.later (bx := none) hb1 HM.out.base)
              clear hb1 htok
              go_wp2_with fail
              refine (HNM.out _).mono ?_
              rintro e w2 ⟨rfl, hb2⟩
              replace HF1 := Lib.hid (HF1.out.trans (Fr.later hb2 HM1.out.base))
              replace HM1 := Lib.hid (HM1.out.later hb2)
              clear hb2
              go_wp2_with fail
              refine (landBraces base g M ts σ 17 _ HM1.out HF.out HL.out.1 HL.out.2 (HKN.out (by rw [HTX.out, HT.out]; decide)) HD.out).mono ?_
              intro e w9 h9
              obtain ⟨c, rfl⟩ := h9.val
              have H9 := Lib.hid (h9.trans HF1.out)
              clear h9
              go_wp2_with fail
              go_ret
              rw [HE.out]
              exact H9.out
            · rw [decide_eq_false h4] at f4
              have HE := Lib.hid (show beginM false σ = aheadM (aheadK t.text) σ by rw [pre_brace (g := false) (t := t.text) hlf h2 (by unfold braceOf; rw [if_neg (by decide), if_neg h3, if_neg h4]) htx]; rfl)
              have HPT := Lib.hid (show aheadK t.text ≠ 0 → textOf σ.rest ≠ [] from fun h => by rw [htx]; exact pre_text (g := false) h)
              obtain ⟨ak, hak⟩ : ∃ ak, aheadK t.text = ak := ⟨_, rfl⟩
              rw [hak] at HE HPT HAK
              clear h hf hM hl hr htk ht16 htx hz hnm h0 h1 h2 h3 h4 hn hlf hak
              go_enter Tryz.func63, Tryz.ntmps63
              go_wp2_with fail
              have htok := landTok base g ts σ t r _ HM.out HR.out HL.out.2
              rw [HZ.out] at htok
              refine htok.mono ?_
              rintro e w1 ⟨rfl, hb1⟩
              have HM1 := Lib.hid (HM.out.later hb1)
              have HF1 := Lib.hid (Fr.later (bx := none) hb1 HM.out.base)
              clear hb1 htok
              go_wp2_with fail
              refine (HNM.out _).mono ?_
              rintro e w2 ⟨rfl, hb2⟩
              replace HF1 := Lib.hid (HF1.out.trans (Fr.later hb2 HM1.out.base))
              replace HM1 := Lib.hid (HM1.out.later hb2)
              clear hb2
              go_wp2_with fail
              refine (HAK.out _).mono ?_
              rintro e w3 ⟨rfl, rfl⟩
              go_wp2_with fail
              refine (landAhead base g M ts σ ak _ HM1.out HF.out HL.out.1 HL.out.2 (fun h => HKN.out (HPT.out h)) HD.out).mono ?_
              intro e w9 h9
              obtain ⟨c, rfl⟩ := h9.val
              have H9 := Lib.hid (h9.trans HF1.out)
              clear h9
              go_wp2_with fail
              go_ret
              rw [HE.out]
              exact H9.out
end Go.Proofs.YthcbgneoonekkaaGreatDoor.Parse
