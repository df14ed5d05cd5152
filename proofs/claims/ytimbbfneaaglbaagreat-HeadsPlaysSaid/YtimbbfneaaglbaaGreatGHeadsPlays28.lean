/-
  The walk of the landed names (package log): what stands where a header has its names. By an AI agent.
  The walks of the landed lex's isLetter, isDigit, inWord, lead, isWord, isTaken and Name, for seats that hold Name without Lex. By an AI agent.
-/
import Derived.Test.YtimbbfneaaglbaaGreatGHeadsPlays27
import Derived.Test.YtimbbfneaaglbaaGreatGHeadsPlays17
import Derived.Test.YtimbbfneaaglbaaGreatGHeadsPlays5
import Derived.Shelf.Abstract
namespace Go.Proofs.YtimbbfneaaglbaaGreat.Log
open Go.RowKit Go.Proofs.YtimbbfneaaglbaaGreat.Ints Go.Proofs.YtimbbfneaaglbaaGreat.Mem Go.Proofs.YtimbbfneaaglbaaGreat.SumMath Go.Proofs.YtimbbfneaaglbaaGreat.SumWalks Go.Proofs.YtimbbfneaaglbaaGreat.Trace Go.Proofs.YtimbbfneaaglbaaGreat.Record

set_option maxRecDepth 100000 in
theorem slice_mid {P : Program} (t : TypeId) (ht : P.underlying t = some (.slice (P.elem t))) (size : Nat) (hs : (P.info? (P.elem t)).map (·.size) = some size) (A : Option Addr) (n cap k m : Nat) (hk : k ≤ m) (hm : m ≤ cap) (W : World) :
    (Instr.slice t (.slice A n cap) (some (.int .i64 (k : Int))) (some (.int .i64 (m : Int))) none).run P W = .ok (.slice (fromAddr A cap k size) (m - k) (cap - k)) W := by
  rw [run_slice_lh W t A n cap ht .i64 .i64 (k : Int) (m : Int) (by omega) (by omega) (by omega)]
  obtain ⟨i, hi, hz⟩ := Option.map_eq_some_iff.1 hs
  simp [sizeOf, typeInfo, hi, hz, Result.andThen, sliced, fromAddr]
/-- Bytes from a place on, wherever they stand. -/
theorem rd_from {w : World} {A : Option Addr} {n c p : Nat} {zs : List Int} (h : Rd .u8 w A n zs) (hnc : n ≤ c) (hp : p ≤ n) (hn : 0 < n) : Rd .u8 w (fromAddr A c p 1) (n - p) (zs.drop p) := by
  obtain ⟨b, off, rfl, -⟩ := h.cell hn
  have hd := h.drop hp
  unfold fromAddr
  split
  · have e : n - p = 0 := by omega
    rw [e] at hd ⊢
    rw [List.eq_nil_of_length_eq_zero hd.len]
    exact Rd.nil _ _ _
  · have e : (⟨b, off, none⟩ : Addr).add (p * 1) = ⟨b, off + p, none⟩ := by unfold Addr.add; split <;> simp_all
    show Rd .u8 w (some ((⟨b, off, none⟩ : Addr).add (p * 1))) _ _
    rw [e]
    exact hd
theorem byte_drop (zs : List Int) (p : Nat) : byteAt (zs.drop p) 0 = byteAt zs p := by unfold byteAt; rw [List.getElem?_drop, Nat.add_zero]

set_option maxHeartbeats 8000000 in
set_option maxRecDepth 100000 in
theorem landNamesOf (A : Option Addr) (n c : Nat) (zs : List Int) (w : World) (hnc : n ≤ c) (hc : c ≤ maxLen) (h : Rd .u8 w A n zs) :
    Calls Tryz.prog 86 #[.slice A n c] w fun e w' => ∃ A' c', e = .returned (.slice A' (namesL zs).length c') ∧ w'.ownsRow w.heap.size 9 1 (.slice A' (namesL zs).length c') (namesL zs).length ((namesL zs).map strS) ∧ Below w.heap.size w w' := by
  have q63 : maxLen = 9223372036854775807 := rfl
  obtain ⟨i0, hi, hz0, hz1, hz2⟩ := info_parts infoStrL
  have hl := h.len
  have hby := all_u8 h.all
  by_cases h4 : n ≤ 4
  · have h4' : (n : Int) ≤ 4 := by omega
    have hE : namesL zs = [] := by unfold namesL; rw [if_pos (by omega)]
    rw [hE]
    clear h hl hby
    go_enter Tryz.func86, Tryz.ntmps86
    go_wp2
    go_ret
    exact ⟨none, 0, rfl, World.ownsRow_nil _ _ _ _, Below.refl _ _⟩
  have h4' : ¬ ((n : Int) ≤ 4) := by omega
  have h4n : (4 : Int) < (n : Int) := by omega
  obtain ⟨b, off, rfl, hcell⟩ := h.cell (by omega)
  have x4 := hcell 4 (by omega)
  obtain ⟨hb4, hb4'⟩ := byte_bd hby 4
  rw [hb4'] at x4
  obtain ⟨most, hmost⟩ : ∃ m, byteAt zs 4 = m := ⟨_, rfl⟩
  rw [hmost] at x4 hb4
  have hsl := fun W => slice_from (P := Tryz.prog) 28 (by kernel_rfl) 1 (by kernel_rfl) (some ⟨b, off, none⟩) n c 5 (by omega) W
  obtain ⟨A5, hA5⟩ : ∃ A5, fromAddr (some ⟨b, off, none⟩) c 5 1 = A5 := ⟨_, rfl⟩
  have hrd5 : Rd .u8 w A5 (n - 5) (zs.drop 5) := by rw [← hA5]; exact rd_from h hnc (by omega) (by omega)
  have hsl : ∀ W, (Instr.slice 28 (.slice (some ⟨b, off, none⟩) n c) (some (.int .i64 5)) none none).run Tryz.prog W = .ok (.slice A5 (n - 5) (c - 5)) W := by rw [← hA5]; exact hsl
  have HE := Lib.hid (show namesL zs = readN most (zs.drop 5) by unfold namesL; rw [if_neg (by omega), hmost])
  obtain ⟨R, hR⟩ : ∃ R, namesL zs = R := ⟨_, rfl⟩
  rw [hR] at HE ⊢
  have HRD := Lib.hid hrd5
  have HBY := Lib.hid hby
  clear h hl hby hcell hmost hA5 hrd5 hR hb4'
  go_enter Tryz.func86, Tryz.ntmps86
  go_wp2
  go_loopw [0, 4] (fun q v wr => ∃ (p : Nat) (B : Option Addr) (acc : List (List UInt8)), q = .slice B (n - p) (c - p) ∧ 5 ≤ p ∧ p ≤ n ∧ acc.length ≤ most ∧ Rd .u8 w B (n - p) (zs.drop p) ∧ wr.ownsRow w.heap.size 9 1 v acc.length (acc.map strS) ∧ Below w.heap.size w wr ∧ Hid (acc ++ readN (most - acc.length) (zs.drop p) = R)) (fun q _ _ => (match q with | .slice _ m _ => m | _ => 0))
  case atStart => exact ⟨5, A5, [], rfl, Nat.le_refl _, by omega, Nat.zero_le _, HRD.out, own_lit w w.heap.size 9 .u8 [] 0 rfl (by decide) (Nat.le_refl _), (Below.refl _ _).alloc (Nat.le_refl _) _, by rw [HE.out]; rfl⟩
  case round =>
    obtain ⟨p, B, acc, rfl, hp5, hpn, hacc, hrd, hrow, hBr, hN⟩ := hrel
    obtain ⟨m, hm⟩ : ∃ m, n - p = m := ⟨_, rfl⟩
    obtain ⟨d, hd⟩ : ∃ d, c - p = d := ⟨_, rfl⟩
    have hmd : m ≤ d := by omega
    have hdm : d ≤ maxLen := by omega
    rw [hm] at hrd ⊢
    rw [hd]
    obtain ⟨A2, c2, rfl, hc2, hm2, -, -⟩ := own_slice hrow
    have hin : (acc.length : Int) ≤ 255 := by omega
    by_cases hk : acc.length < most
    rotate_left
    · have hk' : ¬ ((acc.length : Int) < (most : Int)) := by omega
      have HR := Lib.hid (show acc = R by rw [← hN.out, show most - acc.length = 0 by omega]; simp [readN])
      have HRW := Lib.hid hrow
      clear x4 hsl hrd hrow hN
      go_wp2
      go_ret
      rw [← HR.out]
      exact ⟨A2, c2, rfl, HRW.out, hBr⟩
    have hk' : (acc.length : Int) < (most : Int) := by omega
    by_cases hm0 : m = 0
    · subst hm0
      have HR : Hid (acc = R) := by
        have e : zs.drop p = [] := List.eq_nil_of_length_eq_zero hrd.len
        show acc = R
        rw [← hN.out, e, readN_stop _ (by simp)]; simp
      have HRW := Lib.hid hrow
      clear x4 hsl hrd hrow hN
      go_wp2
      go_ret
      rw [← HR.out]
      exact ⟨A2, c2, rfl, HRW.out, hBr⟩
    have hm0' : (0 : Int) < (m : Int) := by omega
    obtain ⟨b2, off2, rfl, hcell⟩ := (hrd.below hBr).cell (by omega)
    have x0 := hcell 0 (by omega)
    have hzl := hrd.len
    obtain ⟨y, hy⟩ : ∃ y, zs.drop p = y := ⟨_, rfl⟩
    rw [hy] at hrd hN x0 hzl
    have hyb : ∀ z ∈ y, 0 ≤ z ∧ z ≤ 255 := fun z hz => HBY.out z (by rw [← hy] at hz; exact List.mem_of_mem_drop hz)
    obtain ⟨hq1, hq2⟩ := byte_bd hyb 0
    rw [hq2] at x0
    obtain ⟨q, hq⟩ : ∃ q, byteAt y 0 = q := ⟨_, rfl⟩
    rw [hq] at x0 hq1
    rw [Nat.add_zero] at x0
    by_cases hmq : m ≤ q
    · have hmq' : ¬ ((m : Int) > (q : Int)) := by omega
      have HR : Hid (acc = R) := by
        show acc = R
        rw [← hN.out, readN_stop _ (by rw [hzl, hq]; exact hmq)]; simp
      have HRW := Lib.hid hrow
      clear x4 hsl hrd hrow hN hcell hyb hq2 hq hy
      go_wp2
      go_ret
      rw [← HR.out]
      exact ⟨A2, c2, rfl, HRW.out, hBr⟩
    have hmq' : (m : Int) > (q : Int) := by omega
    have hs1 : ∀ W, (Instr.slice 28 (.slice (some ⟨b2, off2, none⟩) m d) (some (.int .i64 1)) (some (.int .i64 (1 + (q : Int)))) none).run Tryz.prog W = .ok (.slice (fromAddr (some ⟨b2, off2, none⟩) d 1 1) q (d - 1)) W := fun W => by
      have := slice_mid (P := Tryz.prog) 28 (by kernel_rfl) 1 (by kernel_rfl) (some ⟨b2, off2, none⟩) m d 1 (1 + q) (by omega) (by omega) W
      rw [show 1 + q - 1 = q by omega, show ((1 + q : Nat) : Int) = 1 + (q : Int) by omega] at this
      exact this
    have hs2 : ∀ W, (Instr.slice 28 (.slice (some ⟨b2, off2, none⟩) m d) (some (.int .i64 (1 + (q : Int)))) none none).run Tryz.prog W = .ok (.slice (fromAddr (some ⟨b2, off2, none⟩) d (1 + q) 1) (m - (1 + q)) (d - (1 + q))) W := fun W => by
      have := slice_from (P := Tryz.prog) 28 (by kernel_rfl) 1 (by kernel_rfl) (some ⟨b2, off2, none⟩) m d (1 + q) (by omega) W
      rw [show ((1 + q : Nat) : Int) = 1 + (q : Int) by omega] at this
      exact this
    have hr1 := (rd_from (p := 1) hrd hmd (by omega) (by omega)).take (m := q) (by omega)
    have hr2 := rd_from (p := 1 + q) hrd hmd (by omega) (by omega)
    obtain ⟨A6, hA6⟩ : ∃ A6, fromAddr (some ⟨b2, off2, none⟩) d 1 1 = A6 := ⟨_, rfl⟩
    obtain ⟨A7, hA7⟩ : ∃ A7, fromAddr (some ⟨b2, off2, none⟩) d (1 + q) 1 = A7 := ⟨_, rfl⟩
    rw [hA6] at hs1 hr1
    rw [hA7] at hs2 hr2
    have hcv := run_str (P := Tryz.prog) (W := wr) (c := d - 1) 28 5 9 Tryz.underlying28 Tryz.underlying5 Tryz.underlying9 (hr1.below hBr)
    have HNX := Lib.hid (show R = (acc ++ [toU ((y.drop 1).take q)]) ++ readN (most - (acc.length + 1)) (y.drop (1 + q)) by
      have e : most - acc.length = most - (acc.length + 1) + 1 := by omega
      rw [← hN.out, e, readN_next _ (by rw [hzl, hq]; omega), hq, List.append_assoc]
      rfl)
    obtain ⟨sb, hsb⟩ : ∃ sb, strOfNums ((y.drop 1).take q) = sb := ⟨_, rfl⟩
    have hsu : toU ((y.drop 1).take q) = sb.data.toList := by rw [← hsb, strOfNums_data]; rfl
    rw [hsb] at hcv
    rw [hsu] at HNX
    have HROW := Lib.hid hrow
    have HR2 := Lib.hid hr2
    have HY := Lib.hid hy
    have hsz := hBr.size
    have hq3 : (1 : Int) + (q : Int) ≤ 256 := by omega
    clear x4 hsl hrow hN hcell hyb hq2 hq hy hr1 hr2 hrd hsb hsu hzl hA6 hA7
    go_wp2_with (at_builtin; refine wpList_append_name rfl _ _ 30 rfl w.heap.size 9 i0 Tryz.underlying30 hi hz0 hz1 hz2 (.slice A2 acc.length c2) acc (by rfl) 9 sb HROW.out (by rfl) (by omega) hsz ?_; intro v4 w4 hown4 hgr4)
    go_roundw
    case rel =>
      have hB4 := (hBr.alloc hsz (.cells #[.string sb] 9)).grown hgr4 (le_alloc hsz) (fun z hz => (HROW.out.lt z hz).1)
      have e4 : (acc ++ [sb.data.toList]).length = acc.length + 1 := by rw [List.length_append]; rfl
      refine ⟨p + (1 + q), A7, acc ++ [sb.data.toList], by rw [← hm, ← hd, Nat.sub_sub, Nat.sub_sub], by omega, by omega, by omega, ?_, by rw [e4]; exact hown4, hB4, ?_⟩
      · have := HR2.out
        rw [← HY.out, List.drop_drop, ← hm, Nat.sub_sub] at this
        exact this
      · rw [e4, ← List.drop_drop, HY.out]
        exact HNX.out.symm
    case measure => simp; omega
end Go.Proofs.YtimbbfneaaglbaaGreat.Log

namespace Go.Proofs.YtimbbfneaaglbaaGreat.Lex
open Go.RowKit

theorem landLetter (c : UInt8) (w : World) :
    Calls Tryz.prog 109 #[.int .u8 (c.toNat : Int)] w fun e w' => e = .returned (.bool (small c)) ∧ w' = w := by
  have h : small c = (decide ((97 : Int) ≤ (c.toNat : Int)) && decide ((c.toNat : Int) ≤ 122)) := by
    unfold small
    rw [← Bool.decide_and]
    exact decide_eq_decide.2 (by omega)
  rw [h]
  by_cases h1 : (97 : Int) ≤ (c.toNat : Int)
  all_goals
    go_enter Tryz.func109, Tryz.ntmps109
    go_wp2
    go_ret
    exact ⟨by first | (simp [h1]; done) | (simp; omega), rfl⟩

theorem landDigit (c : UInt8) (w : World) :
    Calls Tryz.prog 116 #[.int .u8 (c.toNat : Int)] w fun e w' => e = .returned (.bool (digit c)) ∧ w' = w := by
  have h : digit c = (decide ((48 : Int) ≤ (c.toNat : Int)) && decide ((c.toNat : Int) ≤ 57)) := by
    unfold digit
    rw [← Bool.decide_and]
    exact decide_eq_decide.2 (by omega)
  rw [h]
  by_cases h1 : (48 : Int) ≤ (c.toNat : Int)
  all_goals
    go_enter Tryz.func116, Tryz.ntmps116
    go_wp2
    go_ret
    exact ⟨by first | (simp [h1]; done) | (simp; omega), rfl⟩

theorem landWordB (c : UInt8) (w : World) :
    Calls Tryz.prog 111 #[.int .u8 (c.toNat : Int)] w fun e w' => e = .returned (.bool (wordB c)) ∧ w' = w := by
  have h : wordB c = (small c || digit c || decide ((c.toNat : Int) = 95)) := by
    unfold wordB
    rw [Bool.or_comm (digit c) (small c)]
    exact congrArg _ (decide_eq_decide.2 (by omega))
  rw [h]
  have HL := Lib.hid (fun W => landLetter c W)
  have HD := Lib.hid (fun W => landDigit c W)
  clear h
  obtain ⟨a, ha⟩ : ∃ a, small c = a := ⟨_, rfl⟩
  obtain ⟨b, hb⟩ : ∃ b, digit c = b := ⟨_, rfl⟩
  rw [ha, hb]
  rw [ha] at HL
  rw [hb] at HD
  clear ha hb
  cases a <;> cases b
  all_goals
    go_enter Tryz.func111, Tryz.ntmps111
    go_wp2_with (first
      | (go_at_call 109; refine (HL.out _).mono ?_; rintro e w' ⟨rfl, rfl⟩)
      | (go_at_call 116; refine (HD.out _).mono ?_; rintro e w' ⟨rfl, rfl⟩))
    go_ret
    exact ⟨by first | rfl | simp, rfl⟩

/-- How many bytes at the beginning are of a kind. -/
def leadS (p : UInt8 → Bool) (l : List UInt8) : Nat := (l.takeWhile p).length
theorem lead_yes {p : UInt8 → Bool} {c : UInt8} {r : List UInt8} (h : p c = true) : leadS p (c :: r) = leadS p r + 1 := by
  unfold leadS
  rw [List.takeWhile_cons_of_pos h]
  rfl
theorem lead_no {p : UInt8 → Bool} {c : UInt8} {r : List UInt8} (h : p c = false) : leadS p (c :: r) = 0 := by
  unfold leadS
  rw [List.takeWhile_cons_of_neg (by rw [h]; decide)]
  rfl
theorem lead_run (words : Bool) (l : List UInt8) : leadS (if words then wordB else digit) l = run words l := rfl

set_option maxHeartbeats 4000000 in
theorem landLead (g : Nat) (p : UInt8 → Bool) (eg : ∀ args w, (callFunc g args).run Tryz.prog w = .ok (.enter g args) w)
    (hg : ∀ (c : UInt8) (W : World), Calls Tryz.prog g #[.int .u8 (c.toNat : Int)] W fun e w' => e = .returned (.bool (p c)) ∧ w' = W) (s : ByteArray) (w : World) (hs : s.size ≤ maxLen) :
    Calls Tryz.prog 110 #[.string s, .func (.func g) #[] #[]] w fun e w' => e = .returned (.int .i64 (leadS p s.data.toList : Nat)) ∧ w' = w := by
  obtain ⟨R, hR⟩ : ∃ R, leadS p s.data.toList = R := ⟨_, rfl⟩
  rw [hR]
  have hm : s.size ≤ 9223372036854775807 := by have : maxLen = 9223372036854775807 := rfl; omega
  have HR := Lib.hid (show R = 0 + leadS p (s.data.toList.drop 0) by rw [Nat.zero_add, List.drop_zero, hR])
  have HM := Lib.hid hm
  have HG := Lib.hid hg
  clear hs hR hm hg
  go_enter Tryz.func110, Tryz.ntmps110
  go_wp2
  go_loop [5] (fun i => ∃ n : Nat, n ≤ s.size ∧ i = .int .i64 n ∧ Hid (R = n + leadS p (s.data.toList.drop n))) (fun i => s.size - (intOf i).toNat)
  case atStart => exact ⟨0, Nat.zero_le _, rfl, HR⟩
  case round =>
    obtain ⟨n, hn, rfl, HN⟩ := hrel
    by_cases hlt : n < s.size
    · have hlt' : (n : Int) < (s.size : Int) := by omega
      have hd := drop_get s n hlt
      obtain ⟨c, hc⟩ : ∃ c, s[n] = c := ⟨_, rfl⟩
      rw [hc] at hd
      have hN := HN.out
      rw [hd] at hN
      have hb : (n : Int) + 1 ≤ 9223372036854775807 := by have := HM.out; omega
      have HP := Lib.hid (fun W => HG.out c W)
      clear hd HN
      rcases hpc : p c
      · rw [hpc] at HP
        rw [lead_no hpc] at hN
        have HN := Lib.hid (show R = n by omega)
        clear hN hpc
        go_wp2_with (go_at_fn g; refine (HP.out _).mono ?_; rintro e w' ⟨rfl, rfl⟩)
        go_ret
        exact ⟨by rw [HN.out]; rfl, rfl⟩
      · rw [hpc] at HP
        rw [lead_yes hpc] at hN
        have HN := Lib.hid (show R = (n + 1) + leadS p (s.data.toList.drop (n + 1)) by omega)
        have HQ := Lib.hid (show n + 1 ≤ s.size by omega)
        clear hN hpc
        go_wp2_with (go_at_fn g; refine (HP.out _).mono ?_; rintro e w' ⟨rfl, rfl⟩)
        go_round
        case rel => exact ⟨n + 1, HQ.out, by go_num, HN⟩
        case measure => have := HQ.out; simp [intOf]; omega
    · have hN := HN.out
      rw [drop_end s n (by omega)] at hN
      have HN := Lib.hid (show R = n from hN)
      have hge : decide ((n : Int) < (s.size : Int)) = false := by simp; omega
      clear hN
      go_wp2
      go_ret
      exact ⟨by rw [HN.out]; rfl, rfl⟩
theorem enterWordB : ∀ args w, (callFunc 111 args).run Tryz.prog w = .ok (.enter 111 args) w := enters_of Tryz.func111 (by kernel_rfl) rfl
theorem leadWords (s : ByteArray) (w : World) (hs : s.size ≤ maxLen) :
    Calls Tryz.prog 110 #[.string s, .func (.func 111) #[] #[]] w fun e w' => e = .returned (.int .i64 (run true s.data.toList : Nat)) ∧ w' = w :=
  landLead _ wordB enterWordB landWordB s w hs

theorem dec_beq (a b : List UInt8) : decide (a = b) = (a == b) := by rw [Bool.eq_iff_iff, decide_eq_true_iff, beq_iff_eq]
theorem taken_or (s : ByteArray) : decide (s.data.toList ∈ reserved) = ((s.toList == [116, 114, 117, 101]) || ((s.toList == [102, 97, 108, 115, 101]) || ((s.toList == [112, 114, 101, 118]) || ((s.toList == [110, 101, 120, 116]) || ((s.toList == [111, 110, 99, 101]) || ((s.toList == [104, 105, 115, 116]) || ((s.toList == [115, 111, 109, 101]) || ((s.toList == [97, 108, 108]) || ((s.toList == [115, 105, 110, 99, 101]) || ((s.toList == [117, 110, 116, 105, 108]) || ((s.toList == [98, 97, 99, 107]) || ((s.toList == [102, 111, 114, 101]))))))))))))) := by
  rw [ByteArray.toList_eq]
  simp only [reserved, List.mem_cons, List.not_mem_nil, or_false, Bool.decide_or, dec_beq]

set_option maxHeartbeats 4000000 in
theorem landTaken (s : ByteArray) (w : World) :
    Calls Tryz.prog 103 #[.string s] w fun e w' => e = .returned (.bool (decide (s.data.toList ∈ reserved))) ∧ w' = w := by
  rw [taken_or]
  obtain ⟨b0, h0⟩ : ∃ b, (s.toList == [116, 114, 117, 101]) = b := ⟨_, rfl⟩
  obtain ⟨b1, h1⟩ : ∃ b, (s.toList == [102, 97, 108, 115, 101]) = b := ⟨_, rfl⟩
  obtain ⟨b2, h2⟩ : ∃ b, (s.toList == [112, 114, 101, 118]) = b := ⟨_, rfl⟩
  obtain ⟨b3, h3⟩ : ∃ b, (s.toList == [110, 101, 120, 116]) = b := ⟨_, rfl⟩
  obtain ⟨b4, h4⟩ : ∃ b, (s.toList == [111, 110, 99, 101]) = b := ⟨_, rfl⟩
  obtain ⟨b5, h5⟩ : ∃ b, (s.toList == [104, 105, 115, 116]) = b := ⟨_, rfl⟩
  obtain ⟨b6, h6⟩ : ∃ b, (s.toList == [115, 111, 109, 101]) = b := ⟨_, rfl⟩
  obtain ⟨b7, h7⟩ : ∃ b, (s.toList == [97, 108, 108]) = b := ⟨_, rfl⟩
  obtain ⟨b8, h8⟩ : ∃ b, (s.toList == [115, 105, 110, 99, 101]) = b := ⟨_, rfl⟩
  obtain ⟨b9, h9⟩ : ∃ b, (s.toList == [117, 110, 116, 105, 108]) = b := ⟨_, rfl⟩
  obtain ⟨b10, h10⟩ : ∃ b, (s.toList == [98, 97, 99, 107]) = b := ⟨_, rfl⟩
  obtain ⟨b11, h11⟩ : ∃ b, (s.toList == [102, 111, 114, 101]) = b := ⟨_, rfl⟩
  rw [h0, h1, h2, h3, h4, h5, h6, h7, h8, h9, h10, h11]
  rcases b0 with _ | _
  rotate_left
  · go_enter Tryz.func103, Tryz.ntmps103
    go_wp2
    go_ret
    exact ⟨rfl, rfl⟩
  rcases b1 with _ | _
  rotate_left
  · go_enter Tryz.func103, Tryz.ntmps103
    go_wp2
    go_ret
    exact ⟨rfl, rfl⟩
  rcases b2 with _ | _
  rotate_left
  · go_enter Tryz.func103, Tryz.ntmps103
    go_wp2
    go_ret
    exact ⟨rfl, rfl⟩
  rcases b3 with _ | _
  rotate_left
  · go_enter Tryz.func103, Tryz.ntmps103
    go_wp2
    go_ret
    exact ⟨rfl, rfl⟩
  rcases b4 with _ | _
  rotate_left
  · go_enter Tryz.func103, Tryz.ntmps103
    go_wp2
    go_ret
    exact ⟨rfl, rfl⟩
  rcases b5 with _ | _
  rotate_left
  · go_enter Tryz.func103, Tryz.ntmps103
    go_wp2
    go_ret
    exact ⟨rfl, rfl⟩
  rcases b6 with _ | _
  rotate_left
  · go_enter Tryz.func103, Tryz.ntmps103
    go_wp2
    go_ret
    exact ⟨rfl, rfl⟩
  rcases b7 with _ | _
  rotate_left
  · go_enter Tryz.func103, Tryz.ntmps103
    go_wp2
    go_ret
    exact ⟨rfl, rfl⟩
  rcases b8 with _ | _
  rotate_left
  · go_enter Tryz.func103, Tryz.ntmps103
    go_wp2
    go_ret
    exact ⟨rfl, rfl⟩
  rcases b9 with _ | _
  rotate_left
  · go_enter Tryz.func103, Tryz.ntmps103
    go_wp2
    go_ret
    exact ⟨rfl, rfl⟩
  rcases b10 with _ | _
  rotate_left
  · go_enter Tryz.func103, Tryz.ntmps103
    go_wp2
    go_ret
    exact ⟨rfl, rfl⟩
  rcases b11 with _ | _
  rotate_left
  · go_enter Tryz.func103, Tryz.ntmps103
    go_wp2
    go_ret
    exact ⟨rfl, rfl⟩
  go_enter Tryz.func103, Tryz.ntmps103
  go_wp2
  go_ret
  exact ⟨rfl, rfl⟩

/-- Is a text a word? -/
def isWordS : List UInt8 → Bool
  | [] => false
  | c :: r => decide (r.length + 1 ≤ 16) && small c && decide (run true (c :: r) = r.length + 1)
theorem name_word (L : List UInt8) : nameS L = (isWordS L && !(decide (L ∈ reserved))) := by cases L <;> rfl

set_option maxHeartbeats 2000000 in
theorem landIsWord (s : ByteArray) (w : World) (hs : s.size ≤ maxLen) :
    Calls Tryz.prog 102 #[.string s] w fun e w' => e = .returned (.bool (isWordS s.data.toList)) ∧ w' = w := by
  have hlen : s.data.toList.length = s.size := Array.length_toList
  cases hL : s.data.toList with
  | nil =>
    have he : s.toList = [] := by rw [ByteArray.toList_eq]; exact hL
    have he2 : (!s.toList.isEmpty) = false := by rw [he]; rfl
    clear hlen hL hs
    go_enter Tryz.func102, Tryz.ntmps102
    go_wp2
    go_ret
    exact ⟨rfl, rfl⟩
  | cons c r =>
    have he : s.toList.isEmpty = false := by rw [ByteArray.toList_eq, hL]; rfl
    have hrl : r.length + 1 = s.size := by rw [← hlen, hL]; rfl
    have h0 : 0 < s.size := by omega
    have h0' : (0 : Int) < (s.size : Int) := by omega
    have hc : s[0] = c := by
      have := drop_get s 0 h0
      rw [List.drop_zero, hL] at this
      exact (List.cons.inj this).1.symm
    have hsm := fun W => landLetter c W
    have hrun := fun W => leadWords s W hs
    rw [hL] at hrun
    obtain ⟨n, hn⟩ : ∃ n, run true (c :: r) = n := ⟨_, rfl⟩
    rw [show isWordS (c :: r) = (decide (r.length + 1 ≤ 16) && small c && decide (run true (c :: r) = r.length + 1)) from rfl]
    rw [hn] at hrun ⊢
    rw [hrl]
    have HRUN := Lib.hid hrun
    by_cases h16 : s.size ≤ 16
    · have h16' : (s.size : Int) ≤ 16 := by omega
      rw [decide_eq_true h16, Bool.true_and]
      rcases hbs : small c
      · rw [hbs] at hsm
        have HSM := Lib.hid hsm
        rw [Bool.false_and]
        clear hlen hL hs hrl hn hsm hrun hbs
        go_enter Tryz.func102, Tryz.ntmps102
        go_wp2_with (go_at_call 109; refine (HSM.out _).mono ?_; rintro e w' ⟨rfl, rfl⟩)
        go_ret
        exact ⟨rfl, rfl⟩
      · rw [hbs] at hsm
        have HSM := Lib.hid hsm
        rw [Bool.true_and]
        have hq : ((n : Int) == (s.size : Int)) = decide (n = s.size) := by
          rw [Bool.eq_iff_iff, beq_iff_eq, decide_eq_true_iff]
          exact Int.natCast_inj
        rw [← hq]
        clear hlen hL hs hrl hn hsm hrun hbs hq
        go_enter Tryz.func102, Tryz.ntmps102
        go_wp2_with (first
          | (go_at_call 109; refine (HSM.out _).mono ?_; rintro e w' ⟨rfl, rfl⟩)
          | (go_at_call 110; refine (HRUN.out _).mono ?_; rintro e w' ⟨rfl, rfl⟩))
        go_ret
        exact ⟨rfl, rfl⟩
    · have h16' : decide ((s.size : Int) ≤ 16) = false := by simp; omega
      rw [decide_eq_false h16, Bool.false_and, Bool.false_and]
      clear hlen hL hs hrl hn hsm hrun h16
      go_enter Tryz.func102, Tryz.ntmps102
      go_wp2
      go_ret
      exact ⟨rfl, rfl⟩

set_option maxHeartbeats 1000000 in
theorem landName (s : ByteArray) (w : World) (hs : s.size ≤ maxLen) :
    Calls Tryz.prog 84 #[.string s] w fun e w' => e = .returned (.bool (nameS s.data.toList)) ∧ w' = w := by
  rw [name_word]
  have hw := fun W => landIsWord s W hs
  have ht := fun W => landTaken s W
  obtain ⟨a, ha⟩ : ∃ a, isWordS s.data.toList = a := ⟨_, rfl⟩
  obtain ⟨b, hb⟩ : ∃ b, decide (s.data.toList ∈ reserved) = b := ⟨_, rfl⟩
  rw [ha] at hw ⊢
  rw [hb] at ht ⊢
  have HW := Lib.hid hw
  have HT := Lib.hid ht
  clear hw ht ha hb hs
  cases a <;> cases b
  all_goals
    go_enter Tryz.func84, Tryz.ntmps84
    go_wp2_with (first
      | (go_at_call 102; refine (HW.out _).mono ?_; rintro e w' ⟨rfl, rfl⟩)
      | (go_at_call 103; refine (HT.out _).mono ?_; rintro e w' ⟨rfl, rfl⟩))
    go_ret
    exact ⟨rfl, rfl⟩

theorem progName (s : ByteArray) (w : World) (hs : s.size ≤ maxLen) :
    Calls Tryz.prog 84 #[.string s] w fun e w' => e = .returned (.bool (nameS s.data.toList)) ∧ Below w.heap.size w w' :=
  (landName s w hs).mono fun _ _ ⟨he, hw⟩ => ⟨he, hw ▸ Below.refl _ _⟩
end Go.Proofs.YtimbbfneaaglbaaGreat.Lex
