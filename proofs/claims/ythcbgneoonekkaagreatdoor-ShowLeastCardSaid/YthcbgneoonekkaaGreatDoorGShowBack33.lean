/-
  The walk of the landed reader's all. By an AI agent.
  The walks of the landed lex's isBlank, isLetter, isDigit, inWord and lead. By an AI agent.
  The walks of the landed lex's firstWord, firstNumber, firstSign and first. By an AI agent.
-/
import Derived.Test.YthcbgneoonekkaaGreatDoorGShowBack32
import Derived.Test.YthcbgneoonekkaaGreatDoorGShowBack22
import Derived.Test.YthcbgneoonekkaaGreatDoorGShowBack13
import Derived.Test.YthcbgneoonekkaaGreatDoorGShowBack6
import Derived.Lib.IndexAny
namespace Go.Proofs.YthcbgneoonekkaaGreatDoor.Parse
open Go.RowKit Go.Proofs.YthcbgneoonekkaaGreatDoor.Ints Go.Proofs.YthcbgneoonekkaaGreatDoor.Lex Go.Proofs.YthcbgneoonekkaaGreatDoor.Tree

/-- Where the reader stands, as memory has it. -/
def atAt (w : World) (g : Nat) : Nat := match w.cell? ⟨g, 1, none⟩ with
  | some (.int _ z) => z.toNat
  | _ => 0
theorem PMemE.at {S : Nat → Prop} {w : World} {base g : Nat} {ts : List Tk} {σ : PS} (h : PMemE S w base g ts σ) : atAt w g = ts.length - σ.rest.length ∧ σ.rest.length ≤ ts.length := by
  obtain ⟨tv, ov, nv, rv, SN, h⟩ := h
  refine ⟨?_, h.suf.length_le⟩
  unfold atAt
  rw [h.blk.cell 1 rfl]
  rfl
theorem PMemE.open4 {S : Nat → Prop} {w : World} {base g : Nat} {ts : List Tk} {σ : PS} (h : PMemE S w base g ts σ) : ∃ A c, w.cell? ⟨g, 4, none⟩ = some (.slice A σ.opn.length c) := by
  obtain ⟨tv, ov, nv, rv, SN, h⟩ := h
  obtain ⟨A, c, rfl, -⟩ := own_sliceN h.opn
  exact ⟨A, c, h.blk.cell 4 rfl⟩
theorem step_run {σ τ : PS} {M : Nat} (hf : Fit M (eOf σ) σ) (hn : ¬ stops σ) (hs : stepM σ = .ok τ) : runM τ = runM σ ∧ τ.rest.length < σ.rest.length := ⟨(run_go hf.toks.allOk hn hs).symm, (step_ok hf.toks.allOk hs).2⟩

set_option maxHeartbeats 16000000 in
theorem landAll (base g M : Nat) (ts : List Tk) (σ : PS) (w : World) (h : PMemE (Aw none) w base g ts σ) (hf : Fit M (eOf σ) σ) (hM : M ≤ 5000) (hl : ts.length ≤ 5000) :
    Calls Tryz.prog 25 #[.pointer (some ⟨g, 0, none⟩)] w (StepGot base g ts w (runW σ)) := by
  have HM := Lib.hid h
  have HF := Lib.hid hf
  have HL := Lib.hid (And.intro hM hl)
  clear h hf hM hl
  go_enter Tryz.func25, Tryz.ntmps25
  go_wp2_with fail
  go_loopw [] (fun wr => ∃ τ, Hid (runM τ = runM σ) ∧ Hid (Fit M (eOf τ) τ) ∧ Hid (PMemE (Aw none) wr base g ts τ) ∧ Hid (Fr none base w wr)) (fun wr => ts.length - atAt wr g)
  case atStart => exact ⟨σ, rfl, HF.out, HM.out, Fr.refl _ _ _⟩
  case round =>
    obtain ⟨τ, HRUN, HFT, HMT, HFR⟩ := hrel
    have hc2 : wr.cell? ⟨g, 2, none⟩ = some (.bool τ.ended) := by obtain ⟨tv, ov, nv, rv, SN, h⟩ := HMT.out; exact h.blk.cell 2 rfl
    obtain ⟨t, r, hr, -, -, -, -⟩ := HFT.out.toks.split
    have HR := Lib.hid hr
    have q0 := fieldT0 t.kind (Lex.bytes t.text) t.num t.pos
    rcases he : τ.ended with _ | _
    · rw [he] at hc2
      have HNS := Lib.hid (show ¬ stops τ from fun hs => by rw [hs.1] at he; cases he)
      clear hr he
      go_wp2_with fail
      refine (landStep base g M ts τ _ HMT.out HFT.out HL.out.1 HL.out.2).mono ?_
      intro e w2 h2
      rcases hs : stepM τ with ⟨c, p⟩ | τ'
      · rw [hs] at h2
        obtain ⟨hc0, rfl, hex, hf2⟩ := h2
        have hcn : ((c : Int) != 0) = true := by simp; omega
        have HRE := Lib.hid (show runW σ = .error (c, p) by unfold runW; rw [← HRUN.out, run_err HNS.out hs]; rfl)
        have HEX := Lib.hid hex
        have HF2 := Lib.hid (HFR.out.trans hf2)
        have HC0 := Lib.hid hc0
        clear hex hf2 hs hc0
        go_wp2_with fail
        go_ret
        rw [HRE.out]
        exact ⟨HC0.out, rfl, HEX.out, HF2.out⟩
      · rw [hs] at h2
        obtain ⟨rfl, hm2, hf2⟩ := h2
        obtain ⟨h5, h6⟩ := step_run HFT.out HNS.out hs
        have HRUN2 := Lib.hid (h5.trans HRUN.out)
        have HFT2 := Lib.hid (step_fit HFT.out hs)
        have HMT2 := Lib.hid hm2
        have HFR2 := Lib.hid (HFR.out.trans hf2)
        have HLT := Lib.hid h6
        clear h5 h6 hm2 hf2 hs
        go_wp2_with fail
        go_roundw
        case rel => exact ⟨τ', HRUN2, HFT2, HMT2, HFR2⟩
        case measure =>
          have h1 := HMT.out.at
          have h2 := HMT2.out.at
          have h3 := HLT.out
          rw [h1.1, h2.1]
          omega
    · rw [he] at hc2
      by_cases hk : t.kind = 0
      · have hk0 : ((t.kind : Int) != 0) = false := by rw [hk]; rfl
        have hst : stops τ := ⟨he, by rw [hr]; exact hk⟩
        have HST := Lib.hid hst
        have HF1 := Lib.hid (show Fit M 1 τ by have := HFT.out; unfold eOf at this; rw [if_pos he] at this; exact this)
        have HRE := Lib.hid (show runW σ = (if 1 < (finM 1 τ).opn.length then .error (2, posOf (finM 1 τ).rest) else .ok (finM 1 τ)) by unfold runW; rw [← HRUN.out, run_stop hst]; rfl)
        clear hr he hk hst
        go_wp2_with fail
        refine (landTok base g ts τ t r _ HMT.out HR.out HL.out.2).mono ?_
        rintro e w2 ⟨rfl, hb2⟩
        have HM2 := Lib.hid (HMT.out.later hb2)
        have HF2 := Lib.hid (HFR.out.trans (Fr.later hb2 HMT.out.base))
        clear hb2
        go_wp2_with fail
        refine (landFinish none base g M ts τ 1 _ (low_none _) HM2.out HF1.out.good HL.out.1 (Nat.le_refl _)).mono ?_
        rintro e w3 ⟨rfl, hm3, hf3⟩
        have HM3 := Lib.hid hm3
        have HF3 := Lib.hid (HF2.out.trans hf3)
        have HG3 := Lib.hid (show GoodT (finM 1 τ).rest by rw [(finM_rest 1 τ).1]; exact HF1.out.toks)
        obtain ⟨A, c, hc4⟩ := hm3.open4
        obtain ⟨n, hn⟩ : ∃ n, (finM 1 τ).opn.length = n := ⟨_, rfl⟩
        rw [hn] at hc4 HRE
        clear hm3 hf3 hn
        by_cases h1 : 1 < n
        · have hi : (1 : Int) < (n : Int) := by omega
          have hd : decide (1 < n) = true := decide_eq_true h1
          rw [if_pos h1] at HRE
          clear h1
          go_wp2_with fail
          go_ret
          rw [HRE.out]
          exact StepGot.bad (by decide) HG3.out rfl HM3.out HF3.out
        · have hi : decide ((1 : Int) < (n : Int)) = false := decide_eq_false (by omega)
          have hd : decide (1 < n) = false := decide_eq_false h1
          rw [if_neg h1] at HRE
          clear h1
          go_wp2_with fail
          go_ret
          rw [HRE.out]
          exact ⟨rfl, HM3.out, HF3.out⟩
      · have hk0 : ((t.kind : Int) != 0) = true := by simp; omega
        have HNS := Lib.hid (show ¬ stops τ from fun hs => hk (by have := hs.2; rw [hr] at this; exact this))
        clear hr he hk
        go_wp2_with fail
        refine (landTok base g ts τ t r _ HMT.out HR.out HL.out.2).mono ?_
        rintro e w1 ⟨rfl, hb1⟩
        have HM1 := Lib.hid (HMT.out.later hb1)
        have HFR1 := Lib.hid (HFR.out.trans (Fr.later hb1 HMT.out.base))
        clear hb1
        go_wp2_with fail
        refine (landStep base g M ts τ _ HM1.out HFT.out HL.out.1 HL.out.2).mono ?_
        intro e w2 h2
        rcases hs : stepM τ with ⟨c, p⟩ | τ'
        · rw [hs] at h2
          obtain ⟨hc0, rfl, hex, hf2⟩ := h2
          have hcn : ((c : Int) != 0) = true := by simp; omega
          have HRE := Lib.hid (show runW σ = .error (c, p) by unfold runW; rw [← HRUN.out, run_err HNS.out hs]; rfl)
          have HEX := Lib.hid hex
          have HF2 := Lib.hid (HFR1.out.trans hf2)
          have HC0 := Lib.hid hc0
          clear hex hf2 hs hc0
          go_wp2_with fail
          go_ret
          rw [HRE.out]
          exact ⟨HC0.out, rfl, HEX.out, HF2.out⟩
        · rw [hs] at h2
          obtain ⟨rfl, hm2, hf2⟩ := h2
          obtain ⟨h5, h6⟩ := step_run HFT.out HNS.out hs
          have HRUN2 := Lib.hid (h5.trans HRUN.out)
          have HFT2 := Lib.hid (step_fit HFT.out hs)
          have HMT2 := Lib.hid hm2
          have HFR2 := Lib.hid (HFR1.out.trans hf2)
          have HLT := Lib.hid h6
          clear h5 h6 hm2 hf2 hs
          go_wp2_with fail
          go_roundw
          case rel => exact ⟨τ', HRUN2, HFT2, HMT2, HFR2⟩
          case measure =>
            have h1 := HMT.out.at
            have h2 := HMT2.out.at
            have h3 := HLT.out
            rw [h1.1, h2.1]
            omega
end Go.Proofs.YthcbgneoonekkaaGreatDoor.Parse

namespace Go.Proofs.YthcbgneoonekkaaGreatDoor.Lex
open Go.RowKit

theorem landBlank (c : UInt8) (w : World) :
    Calls Tryz.prog 54 #[.int .u8 (c.toNat : Int)] w fun e w' => e = .returned (.bool (blank c)) ∧ w' = w := by
  have h : blank c = (decide ((c.toNat : Int) = 32) || decide ((c.toNat : Int) = 10)) := by
    unfold blank
    rw [← Bool.decide_or]
    exact decide_eq_decide.2 (by omega)
  rw [h]
  obtain ⟨x, hx⟩ : ∃ x : Int, (c.toNat : Int) = x := ⟨_, rfl⟩
  rw [hx]
  clear h hx
  by_cases h1 : x = 32
  all_goals
    go_enter Tryz.func54, Tryz.ntmps54
    go_wp2
    go_ret
    exact ⟨by first | rfl | (simp [h1]; done) | (simp [h1]; rfl), rfl⟩
end Go.Proofs.YthcbgneoonekkaaGreatDoor.Lex

namespace Go.Proofs.YthcbgneoonekkaaGreatDoor.Lex
open Go.RowKit

/-- A token by value. -/
def tokV (x : Nat × List UInt8 × Nat) : Value := .agg #[.int .i64 (x.1 : Int), .string (bytes x.2.1), .int .i64 (x.2.2 : Int), .int .i64 0]
/-- What first tells of a piece: the token, and how many bytes. -/
def firstOf : Option (Nat × Option (Nat × List UInt8 × Nat)) → (Nat × List UInt8 × Nat) × Nat
  | none => ((0, [], 0), 0)
  | some (n, none) => ((0, [], 0), n)
  | some (n, some x) => (x, n)
def FirstGot (w : World) (r : (Nat × List UInt8 × Nat) × Nat) (e : Ending) (w' : World) : Prop :=
  e = .returned (.tuple #[tokV r.1, .int .i64 (r.2 : Int)]) ∧ Below w.heap.size w w'

theorem enterDigit : ∀ args w, (callFunc 57 args).run Tryz.prog w = .ok (.enter 57 args) w := enters_of Tryz.func57 (by kernel_rfl) rfl
theorem enterBlank : ∀ args w, (callFunc 54 args).run Tryz.prog w = .ok (.enter 54 args) w := enters_of Tryz.func54 (by kernel_rfl) rfl

theorem leadDigits (s : ByteArray) (w : World) (hs : s.size ≤ maxLen) :
    Calls Tryz.prog 53 #[.string s, .func (.func 57) #[] #[]] w fun e w' => e = .returned (.int .i64 (run false s.data.toList : Nat)) ∧ w' = w :=
  landLead _ digit enterDigit landDigit s w hs
theorem leadBlanks (s : ByteArray) (w : World) (hs : s.size ≤ maxLen) :
    Calls Tryz.prog 53 #[.string s, .func (.func 54) #[] #[]] w fun e w' => e = .returned (.int .i64 (leadS blank s.data.toList : Nat)) ∧ w' = w :=
  landLead _ blank enterBlank landBlank s w hs

set_option maxHeartbeats 2000000 in
theorem landFirstWord (s : ByteArray) (w : World) (hs : s.size ≤ maxLen) :
    Calls Tryz.prog 56 #[.string s] w (FirstGot w (if 16 < run true s.data.toList then ((0, [], 0), 0) else ((1, s.data.toList.take (run true s.data.toList), 0), run true s.data.toList))) := by
  obtain ⟨n, hn⟩ : ∃ n, run true s.data.toList = n := ⟨_, rfl⟩
  have hle := run_le true s.data.toList
  rw [hn, Array.length_toList] at hle
  have hrun := fun W => leadWords s W hs
  rw [hn] at hrun ⊢
  have HRUN := Lib.hid hrun
  have hn1 : n ≤ s.size := hle
  have hm : s.size ≤ 9223372036854775807 := by have : maxLen = 9223372036854775807 := rfl; omega
  clear hrun hn hle hs
  by_cases h16 : 16 < n
  · have h16' : (16 : Int) < (n : Int) := by omega
    rw [if_pos h16]
    clear h16
    go_enter Tryz.func56, Tryz.ntmps56
    go_wp2_with (go_at_call 53; refine (HRUN.out _).mono ?_; rintro e w' ⟨rfl, rfl⟩)
    refine bodyPost_ret (v := .tuple #[tokV (0, [], 0), .int .i64 0]) (by simp [results, Tryz.results56, go_sem]; rfl) rfl ⟨rfl, ?_⟩
    exact (Below.refl _ _).alloc (Nat.le_refl _) _
  · have h16' : decide ((16 : Int) < (n : Int)) = false := by simp; omega
    rw [if_neg h16]
    obtain ⟨X, hX⟩ : ∃ X, s.extract 0 n = X := ⟨_, rfl⟩
    have HX := Lib.hid (show X = bytes (s.data.toList.take n) by rw [← hX, extract_bytes s 0 n n (by omega), List.drop_zero])
    clear h16
    go_enter Tryz.func56, Tryz.ntmps56
    go_wp2_with (go_at_call 53; refine (HRUN.out _).mono ?_; rintro e w' ⟨rfl, rfl⟩)
    refine bodyPost_ret (v := .tuple #[tokV (1, s.data.toList.take n, 0), .int .i64 n]) (by simp [results, Tryz.results56, go_sem]; rw [HX.out]; rfl) rfl ⟨rfl, ?_⟩
    exact (Below.refl _ _).alloc (Nat.le_refl _) _

set_option maxHeartbeats 4000000 in
theorem landFirstNumber (s : ByteArray) (c : UInt8) (r : List UInt8) (w : World) (hs : s.size ≤ maxLen) (hd : s.data.toList = c :: r) (hdg : digit c = true) :
    Calls Tryz.prog 58 #[.string s] w (FirstGot w (if 4 < run false (c :: r) ∨ (c.toNat = 48 ∧ 1 < run false (c :: r)) then ((0, [], 0), 0) else ((2, [], numOf ((c :: r).take (run false (c :: r)))), run false (c :: r)))) := by
  obtain ⟨n, hn⟩ : ∃ n, run false (c :: r) = n := ⟨_, rfl⟩
  have hn1 : 1 ≤ n := by rw [← hn]; exact run_pos hdg
  have hle := run_le false s.data.toList
  rw [hd, hn, ← hd, Array.length_toList] at hle
  have hle : n ≤ s.size := hle
  have hrun := fun W => leadDigits s W hs
  rw [hd, hn] at hrun
  rw [hn]
  have HRUN := Lib.hid hrun
  have hm : s.size ≤ 9223372036854775807 := by have : maxLen = 9223372036854775807 := rfl; omega
  have hp0 : 0 < s.size := by omega
  have hp0' : (0 : Int) < (s.size : Int) := by omega
  have hs0 : s[0] = c := by
    have := drop_get s 0 hp0
    rw [List.drop_zero, hd] at this
    exact (List.cons.inj this).1.symm
  have HD := Lib.hid hd
  have HRD := Lib.hid hn
  have HZ := Lib.hid hm
  clear hrun hn hs hd
  by_cases h4 : 4 < n
  · have h4' : (4 : Int) < (n : Int) := by omega
    rw [if_pos (Or.inl h4)]
    clear h4
    go_enter Tryz.func58, Tryz.ntmps58
    go_wp2_with (go_at_call 53; refine (HRUN.out _).mono ?_; rintro e w' ⟨rfl, rfl⟩)
    refine bodyPost_ret (v := .tuple #[tokV (0, [], 0), .int .i64 0]) (by simp [results, Tryz.results58, go_sem]; rfl) rfl ⟨rfl, ?_⟩
    exact (Below.refl _ _).alloc (Nat.le_refl _) _
  · have h4' : decide ((4 : Int) < (n : Int)) = false := by simp; omega
    have hn4 : n ≤ 4 := by omega
    by_cases h48 : c.toNat = 48 ∧ 1 < n
    · obtain ⟨h48, h1⟩ := h48
      have h48' : (c.toNat : Int) = 48 := by omega
      have h1' : (1 : Int) < (n : Int) := by omega
      rw [if_pos (Or.inr ⟨h48, h1⟩)]
      clear h48 h1 h4 hdg
      go_enter Tryz.func58, Tryz.ntmps58
      go_wp2_with (go_at_call 53; refine (HRUN.out _).mono ?_; rintro e w' ⟨rfl, rfl⟩)
      refine bodyPost_ret (v := .tuple #[tokV (0, [], 0), .int .i64 0]) (by simp [results, Tryz.results58, go_sem]; rfl) rfl ⟨rfl, ?_⟩
      exact (Below.refl _ _).alloc (Nat.le_refl _) _
    · rw [if_neg (by omega)]
      have hcases : (n = 1 ∧ decide ((1 : Int) < (n : Int)) = false) ∨ ((1 : Int) < (n : Int) ∧ ((c.toNat : Int) == 48) = false) := by
        by_cases h1 : 1 < n
        · exact Or.inr ⟨by omega, by simp only [beq_eq_false_iff_ne]; omega⟩
        · exact Or.inl ⟨by omega, by simp; omega⟩
      clear h48 h4 hdg
      rcases hcases with ⟨-, hA⟩ | ⟨hA, hB⟩
      all_goals
        go_enter Tryz.func58, Tryz.ntmps58
        go_wp2_with (go_at_call 53; refine (HRUN.out _).mono ?_; rintro e w' ⟨rfl, rfl⟩)
        go_loop [5, 6, 22] (fun x _ i => ∃ k : Nat, k ≤ n ∧ i = .int .i64 k ∧ x = .int .i64 (numOf ((c :: r).take k) : Nat)) (fun _ _ i => n - (intOf i).toNat)
        case atStart => exact ⟨0, Nat.zero_le _, rfl, by rw [List.take_zero]; rfl⟩
        case round =>
          obtain ⟨k, hk, rfl, rfl⟩ := hrel
          by_cases hkn : k < n
          · have hkn' : (k : Int) < (n : Int) := by omega
            have hk1 : k + 1 ≤ n := by omega
            have hpk : 0 + k < s.size := by omega
            have hqs' : k < s.size := by omega
            have hqs : (k : Int) < (s.size : Int) := Int.ofNat_lt.2 hqs'
            have hg := get_drop s 0 k hpk
            rw [List.drop_zero] at hg
            obtain ⟨d, hd1, hd2⟩ := run_digits (c :: r) k (by rw [HRD.out]; exact hkn)
            have hlt := numOf_lt k (c :: r) (by rw [HRD.out]; exact hk)
            have hstep := numOf_take (c :: r) k d hd1
            have hpow : 10 ^ k ≤ 10 ^ 4 := Nat.pow_le_pow_right (by decide) (Nat.le_trans hk hn4)
            rw [HD.out, hd1] at hg
            have hgd : s[k]'hqs' = d := by
              have e : s[0 + k]'hpk = s[k]'hqs' := by congr 1; omega
              rw [← e]; exact (Option.some.inj hg).symm
            obtain ⟨x, hx⟩ : ∃ x, numOf ((c :: r).take k) = x := ⟨_, rfl⟩
            rw [hx] at hlt hstep ⊢
            simp only [digit, decide_eq_true_eq] at hd2
            obtain ⟨y, hy⟩ : ∃ y, d.toNat - 48 = y := ⟨_, rfl⟩
            rw [hy] at hstep
            obtain ⟨e5, e6, e7, e8⟩ := num_facts (Nat.lt_of_lt_of_le hlt hpow) hd2 hy
            have HST := Lib.hid hstep
            clear hstep hd1 hg hpow hpk hd2 hx hy hlt
            go_wp2_with fail
            go_round
            case rel =>
              refine ⟨k + 1, hk1, by go_num, ?_⟩
              rw [HST.out, Int.natCast_add, Int.natCast_mul]
              exact congrArg (Value.int .i64) e8
            case measure =>
              clear e5 e6 e7 e8
              simp [intOf]; omega
          · have hkn' : decide ((k : Int) < (n : Int)) = false := by simp; omega
            have e : k = n := by omega
            subst e
            obtain ⟨V, hV⟩ : ∃ V, numOf ((c :: r).take k) = V := ⟨_, rfl⟩
            rw [hV]
            have HV := Lib.hid hV
            clear hV
            go_wp2_with fail
            refine bodyPost_ret (v := .tuple #[tokV (2, [], V), .int .i64 k]) (by simp [results, Tryz.results58, go_sem]; rfl) rfl ⟨by rw [HV.out], ?_⟩
            exact (Below.refl _ _).alloc (Nat.le_refl _) _

def signBytes : List UInt8 := [40, 41, 91, 93, 123, 125, 44, 42, 46, 63, 43, 59, 33, 38, 124]
theorem sign_contains (c : UInt8) : signBytes.contains c = isSign c := by
  have e : signs = signBytes.map (·.toNat) := by decide
  unfold isSign
  rw [e, List.contains_eq_mem]
  refine decide_eq_decide.2 ⟨fun h => List.mem_map_of_mem h, fun h => ?_⟩
  obtain ⟨x, hx, he⟩ := List.mem_map.1 h
  rwa [← UInt8.toNat_inj.1 he]
theorem u8_back (c : UInt8) : (c.toNat : Int).toNat.toUInt8 = c := by
  rw [Int.toNat_natCast]
  exact UInt8.ofNat_toNat
theorem sign_index (c : UInt8) : decide ((0 : Int) ≤ Go.Lib.indexByte signBytes (c.toNat : Int).toNat.toUInt8) = isSign c := by
  rw [u8_back, ← Go.Lib.contains_iff_indexByte, sign_contains]
def arrowB (c : UInt8) (r : List UInt8) : Bool := decide (c.toNat = 45 ∧ r.head?.map (·.toNat) = some 62)
theorem arrow_prefix (c : UInt8) (r : List UInt8) : Go.Lib.hasPrefix (c :: r) [45, 62] = arrowB c r := by
  unfold Go.Lib.hasPrefix arrowB
  have n45 : ((45 : UInt8) == c) = decide (c.toNat = 45) := by
    rw [Bool.eq_iff_iff, beq_iff_eq, decide_eq_true_iff]
    exact ⟨fun h => by rw [← h]; rfl, fun h => UInt8.toNat_inj.1 (h ▸ rfl)⟩
  cases r with
  | nil => simp [List.isPrefixOf]
  | cons d r =>
    have n62 : ((62 : UInt8) == d) = decide (d.toNat = 62) := by
      rw [Bool.eq_iff_iff, beq_iff_eq, decide_eq_true_iff]
      exact ⟨fun h => by rw [← h]; rfl, fun h => UInt8.toNat_inj.1 (h ▸ rfl)⟩
    show ((45 == c) && ((62 == d) && true)) = _
    rw [n45, n62, Bool.and_true, ← Bool.decide_and]
    exact decide_eq_decide.2 (by simp)
theorem arrow_more {c : UInt8} {r : List UInt8} (h : arrowB c r = true) : ∃ q, c :: r = 45 :: 62 :: q := by
  unfold arrowB at h
  obtain ⟨h1, h2⟩ := decide_eq_true_iff.1 h
  cases r with
  | nil => simp at h2
  | cons d q =>
    simp at h2
    exact ⟨q, by rw [UInt8.toNat_inj.1 (h1.trans (show 45 = (45 : UInt8).toNat from rfl)), UInt8.toNat_inj.1 (h2.trans (show 62 = (62 : UInt8).toNat from rfl))]⟩

set_option maxHeartbeats 4000000 in
theorem landFirstSign (s : ByteArray) (c : UInt8) (r : List UInt8) (w : World) (hs : s.size ≤ maxLen) (hd : s.data.toList = c :: r) :
    Calls Tryz.prog 59 #[.string s] w (FirstGot w (if arrowB c r then ((3, [45, 62], 0), 2) else if isSign c then ((3, [c], 0), 1) else ((0, [], 0), 0))) := by
  have hm : s.size ≤ 9223372036854775807 := by have : maxLen = 9223372036854775807 := rfl; omega
  have hlen : s.data.toList.length = s.size := Array.length_toList
  have hp0 : 0 < s.size := by rw [← hlen, hd]; simp
  have hp0' : (0 : Int) < (s.size : Int) := by omega
  have hs0 : s[0] = c := by
    have := drop_get s 0 hp0
    rw [List.drop_zero, hd] at this
    exact (List.cons.inj this).1.symm
  have hpre := fun W => Tryz.strings_HasPrefix s ⟨#[45, 62]⟩ W
  rw [hd, show (({ data := #[45, 62] } : ByteArray).data.toList) = [45, 62] from rfl, arrow_prefix] at hpre
  have hidx := fun W => Tryz.strings_IndexByte ⟨#[40, 41, 91, 93, 123, 125, 44, 42, 46, 63, 43, 59, 33, 38, 124]⟩ (c.toNat : Int) W
  have hsi := sign_index c
  rw [show (({ data := #[40, 41, 91, 93, 123, 125, 44, 42, 46, 63, 43, 59, 33, 38, 124] } : ByteArray).data.toList) = signBytes from rfl] at hidx
  obtain ⟨X, hX⟩ : ∃ X, Go.Lib.indexByte signBytes (c.toNat : Int).toNat.toUInt8 = X := ⟨_, rfl⟩
  rw [hX] at hidx hsi
  have HIDX := Lib.hid hidx
  clear hX hidx
  rcases ha : arrowB c r
  · rw [ha] at hpre
    have HPRE := Lib.hid hpre
    clear hpre ha
    rcases hsg : isSign c
    · rw [hsg] at hsi
      clear hd hlen hsg
      go_enter Tryz.func59, Tryz.ntmps59
      go_wp2_with (first
        | (go_at_call 69; refine (HPRE.out _).mono ?_; rintro e w' ⟨rfl, rfl⟩)
        | (go_at_call 70; refine (HIDX.out _).mono ?_; rintro e w' ⟨rfl, rfl⟩))
      refine bodyPost_ret (v := .tuple #[tokV (0, [], 0), .int .i64 0]) (by simp [results, Tryz.results59, go_sem]; rfl) rfl ⟨rfl, ?_⟩
      exact (Below.refl _ _).alloc (Nat.le_refl _) _
    · rw [hsg] at hsi
      obtain ⟨Y, hY⟩ : ∃ Y, s.extract 0 1 = Y := ⟨_, rfl⟩
      have HY := Lib.hid (show Y = bytes [c] by rw [← hY, extract_bytes s 0 1 1 rfl, List.drop_zero, hd]; rfl)
      have hp1 : (1 : Int) ≤ (s.size : Int) := by omega
      have hX0 : (0 : Int) ≤ X := decide_eq_true_iff.1 hsi
      clear hd hlen hsg hsi
      go_enter Tryz.func59, Tryz.ntmps59
      go_wp2_with (first
        | (go_at_call 69; refine (HPRE.out _).mono ?_; rintro e w' ⟨rfl, rfl⟩)
        | (go_at_call 70; refine (HIDX.out _).mono ?_; rintro e w' ⟨rfl, rfl⟩))
      refine bodyPost_ret (v := .tuple #[tokV (3, [c], 0), .int .i64 1]) (by simp [results, Tryz.results59, go_sem]; rw [HY.out]; rfl) rfl ⟨rfl, ?_⟩
      exact (Below.refl _ _).alloc (Nat.le_refl _) _
  · rw [ha] at hpre
    have HPRE := Lib.hid hpre
    obtain ⟨q, hq⟩ := arrow_more ha
    obtain ⟨Y, hY⟩ : ∃ Y, s.extract 0 2 = Y := ⟨_, rfl⟩
    have HY := Lib.hid (show Y = bytes [45, 62] by rw [← hY, extract_bytes s 0 2 2 rfl, List.drop_zero, hd, hq]; rfl)
    have hp2 : (2 : Int) ≤ (s.size : Int) := by
      have : 2 ≤ s.data.toList.length := by rw [hd, hq]; simp
      omega
    clear hpre ha hd hq hlen hsi
    go_enter Tryz.func59, Tryz.ntmps59
    go_wp2_with (first
      | (go_at_call 69; refine (HPRE.out _).mono ?_; rintro e w' ⟨rfl, rfl⟩)
      | (go_at_call 70; refine (HIDX.out _).mono ?_; rintro e w' ⟨rfl, rfl⟩))
    refine bodyPost_ret (v := .tuple #[tokV (3, [45, 62], 0), .int .i64 2]) (by simp [results, Tryz.results59, go_sem]; rw [HY.out]; rfl) rfl ⟨rfl, ?_⟩
    exact (Below.refl _ _).alloc (Nat.le_refl _) _
end Go.Proofs.YthcbgneoonekkaaGreatDoor.Lex
