/-
  The walks of the reference's Holds, Cut, SameEvent, SameEvents, SameTrace; slices.Index, Contains and Equal over names and ids. By an AI agent.
  What a call that hands back a trace leaves; an event of a list. By an AI agent.
  The walks of the landed lex's isLetter, isDigit, inWord, lead, isWord, isTaken and Name, for seats that hold Name without Lex. By an AI agent.
  The walks of the landed package trace: Names, Ids, May, Holds, end. By an AI agent.
  slices.Contains over ids, and the walk of the reference's Holds. By an AI agent.
  The walks of the landed Holds and end. By an AI agent.
-/
import Derived.Test.YtdbgaccnejffpaaGreatDoorGSatDual19
import Derived.Deep.RegionHeld3
import Derived.Test.YtdbgaccnejffpaaGreatDoorGSatDual16
import Derived.Test.YtdbgaccnejffpaaGreatDoorGSatDual4
import Derived.Shelf.Abstract
namespace Go.Proofs.YtdbgaccnejffpaaGreatDoor.Trace
open Go.RowKit Go.Proofs.YtdbgaccnejffpaaGreatDoor.Ints Go.Proofs.YtdbgaccnejffpaaGreatDoor.Mem
def idxL (l : List (List UInt8)) (x : List UInt8) : Int := if x ∈ l then ((l.idxOf x : Nat) : Int) else -1
theorem idx_from (l : List (List UInt8)) (x : ByteArray) (i : Nat) : Lib.idxFromS (l.map fun s => (⟨s.toArray⟩ : ByteArray)) x i = if x.data.toList ∈ l then ((i + l.idxOf x.data.toList : Nat) : Int) else -1 := by
 induction l generalizing i with
 | nil => rfl
 | cons z l ih =>
  have he : ((⟨z.toArray⟩ : ByteArray) = x) ↔ z = x.data.toList := by
   constructor
   ·rintro rfl; rfl
   ·rintro rfl; cases x; rfl
  rw [List.map_cons, Lib.idxFromS]
  by_cases h : z = x.data.toList
  ·rw [if_pos (he.2 h), if_pos (by rw [h]; exact List.mem_cons_self), h, List.idxOf_cons_self]
   rfl
  ·have hi : List.idxOf x.data.toList (z :: l) = List.idxOf x.data.toList l + 1 := by rw [List.idxOf_cons, cond_eq_ite, if_neg (by simpa using h)]
   rw [if_neg (fun e => h (he.1 e)), ih, hi]
   by_cases hm : x.data.toList ∈ l
   ·rw [if_pos hm, if_pos (List.mem_cons_of_mem _ hm)]
    congr 1
    omega
   ·rw [if_neg hm, if_neg (by rintro (_ | ⟨_, h2⟩); exact h rfl; exact hm h2)]
theorem indexStr (A : Option Addr) (n c : Nat) (l : List (List UInt8)) (x : ByteArray) (w : World) (hl : l.length = n) (hn : n ≤ maxLen) (h : Strs w A l) :
  Calls Tryz.prog 54 #[.slice A n c, .string x] w fun e w' => e = .returned (.int .i64 (idxL l x.data.toList)) ∧ w' = w := by
 subst hl
 have e0 : Lib.idxOfS (l.map fun s => (⟨s.toArray⟩ : ByteArray)) x = idxL l x.data.toList := by
  unfold Lib.idxOfS idxL
  rw [idx_from]
  simp
 by_cases h0 : l.length = 0
 ·have : l = [] := List.eq_nil_of_length_eq_zero h0
  subst this
  exact Tryz.slices_Index_string_empty A c x w
 ·obtain ⟨b, off, rfl, hc⟩ := h (by omega)
  refine (Tryz.slices_Index_string b off l.length c (l.map fun s => (⟨s.toArray⟩ : ByteArray)) x w (by rw [List.length_map]; exact Nat.le_refl _) hn (fun j hj => ?_)).mono fun e w' ⟨he, hw⟩ => ⟨?_, hw⟩
  ·rw [List.length_map] at hj
   rw [hc j _ (List.getElem?_eq_getElem hj)]
   simp [List.getD, hj, strS]
  ·rw [he, List.take_of_length_le (by rw [List.length_map]; exact Nat.le_refl _), e0]
end Go.Proofs.YtdbgaccnejffpaaGreatDoor.Trace

namespace Go.Proofs.YtdbgaccnejffpaaGreatDoor.Trace
open Go.RowKit Go.Proofs.YtdbgaccnejffpaaGreatDoor.Ints Go.Proofs.YtdbgaccnejffpaaGreatDoor.Mem
def GotTr (w : World) (t : Tr) (e : Ending) (w' : World) : Prop :=
 ∃ NA nn nc EA ne ec, e = .returned (.agg #[.slice NA nn nc, .slice EA ne ec]) ∧ TrOk Any w' NA nn nc EA ne ec t ∧ Below w.heap.size w w'
theorem undrew1 {w w' : World} (hb : Below w.drew.heap.size w.drew w') : Below w.heap.size w w' := ((Below.refl _ w).drew).trans hb
end Go.Proofs.YtdbgaccnejffpaaGreatDoor.Trace

namespace Go.Proofs.YtdbgaccnejffpaaGreatDoor.Lex
open Go.RowKit
theorem landLetter (c : UInt8) (w : World) :
  Calls Tryz.prog 86 #[.int .u8 (c.toNat : Int)] w fun e w' => e = .returned (.bool (small c)) ∧ w' = w := by
 have h : small c = (decide ((97 : Int) ≤ (c.toNat : Int)) && decide ((c.toNat : Int) ≤ 122)) := by
  unfold small
  rw [← Bool.decide_and]
  exact decide_eq_decide.2 (by omega)
 rw [h]
 by_cases h1 : (97 : Int) ≤ (c.toNat : Int)
 all_goals
  go_enter Tryz.func86, Tryz.ntmps86
  go_wp2
  go_ret
  exact ⟨by first | (simp [h1]; done) | (simp; omega), rfl⟩
theorem landDigit (c : UInt8) (w : World) :
  Calls Tryz.prog 97 #[.int .u8 (c.toNat : Int)] w fun e w' => e = .returned (.bool (digit c)) ∧ w' = w := by
 have h : digit c = (decide ((48 : Int) ≤ (c.toNat : Int)) && decide ((c.toNat : Int) ≤ 57)) := by
  unfold digit
  rw [← Bool.decide_and]
  exact decide_eq_decide.2 (by omega)
 rw [h]
 by_cases h1 : (48 : Int) ≤ (c.toNat : Int)
 all_goals
  go_enter Tryz.func97, Tryz.ntmps97
  go_wp2
  go_ret
  exact ⟨by first | (simp [h1]; done) | (simp; omega), rfl⟩
theorem landWordB (c : UInt8) (w : World) :
  Calls Tryz.prog 88 #[.int .u8 (c.toNat : Int)] w fun e w' => e = .returned (.bool (wordB c)) ∧ w' = w := by
 have h : wordB c = (small c || digit c || decide ((c.toNat : Int) = 95)) := by
  unfold wordB
  rw [Bool.or_comm (digit c) (small c)]
  exact congrArg _ (decide_eq_decide.2 (by omega))
 rw [h]
 have HL := Lib.hid (fun W => landLetter c W)
 have HD := Lib.hid (fun W => landDigit c W)
 clear h
 obtain ⟨a, ha⟩ : ∃ a, small c = a := ⟨_, rfl⟩
 obtain ⟨b, hb⟩ : ∃ b, digit c = b := ⟨_, rfl⟩
 rw [ha, hb]
 rw [ha] at HL
 rw [hb] at HD
 clear ha hb
 cases a <;> cases b
 all_goals
  go_enter Tryz.func88, Tryz.ntmps88
  go_wp2_with (first
   | (go_at_call 86; refine (HL.out _).mono ?_; rintro e w' ⟨rfl, rfl⟩)
   | (go_at_call 97; refine (HD.out _).mono ?_; rintro e w' ⟨rfl, rfl⟩))
  go_ret
  exact ⟨by first | rfl | simp, rfl⟩
def leadS (p : UInt8 → Bool) (l : List UInt8) : Nat := (l.takeWhile p).length
theorem lead_yes {p : UInt8 → Bool} {c : UInt8} {r : List UInt8} (h : p c = true) : leadS p (c :: r) = leadS p r + 1 := by
 unfold leadS
 rw [List.takeWhile_cons_of_pos h]
 rfl
theorem lead_no {p : UInt8 → Bool} {c : UInt8} {r : List UInt8} (h : p c = false) : leadS p (c :: r) = 0 := by
 unfold leadS
 rw [List.takeWhile_cons_of_neg (by rw [h]; decide)]
 rfl
set_option maxHeartbeats 4000000 in
theorem landLead (g : Nat) (p : UInt8 → Bool) (eg : ∀ args w, (callFunc g args).run Tryz.prog w = .ok (.enter g args) w)
  (hg : ∀ (c : UInt8) (W : World), Calls Tryz.prog g #[.int .u8 (c.toNat : Int)] W fun e w' => e = .returned (.bool (p c)) ∧ w' = W) (s : ByteArray) (w : World) (hs : s.size ≤ maxLen) :
  Calls Tryz.prog 87 #[.string s, .func (.func g) #[] #[]] w fun e w' => e = .returned (.int .i64 (leadS p s.data.toList : Nat)) ∧ w' = w := by
 obtain ⟨R, hR⟩ : ∃ R, leadS p s.data.toList = R := ⟨_, rfl⟩
 rw [hR]
 have hm : s.size ≤ 9223372036854775807 := by have : maxLen = 9223372036854775807 := rfl; omega
 have HR := Lib.hid (show R = 0 + leadS p (s.data.toList.drop 0) by rw [Nat.zero_add, List.drop_zero, hR])
 have HM := Lib.hid hm
 have HG := Lib.hid hg
 clear hs hR hm hg
 go_enter Tryz.func87, Tryz.ntmps87
 go_wp2
 go_loop [5] (fun i => ∃ n : Nat, n ≤ s.size ∧ i = .int .i64 n ∧ Hid (R = n + leadS p (s.data.toList.drop n))) (fun i => s.size - (intOf i).toNat)
 case atStart => exact ⟨0, Nat.zero_le _, rfl, HR⟩
 case round =>
  obtain ⟨n, hn, rfl, HN⟩ := hrel
  by_cases hlt : n < s.size
  ·have hlt' : (n : Int) < (s.size : Int) := by omega
   have hd := drop_get s n hlt
   obtain ⟨c, hc⟩ : ∃ c, s[n] = c := ⟨_, rfl⟩
   rw [hc] at hd
   have hN := HN.out
   rw [hd] at hN
   have hb : (n : Int) + 1 ≤ 9223372036854775807 := by have := HM.out; omega
   have HP := Lib.hid (fun W => HG.out c W)
   clear hd HN
   rcases hpc : p c
   ·rw [hpc] at HP
    rw [lead_no hpc] at hN
    have HN := Lib.hid (show R = n by omega)
    clear hN hpc
    go_wp2_with (go_at_fn g; refine (HP.out _).mono ?_; rintro e w' ⟨rfl, rfl⟩)
    go_ret
    exact ⟨by rw [HN.out]; rfl, rfl⟩
   ·rw [hpc] at HP
    rw [lead_yes hpc] at hN
    have HN := Lib.hid (show R = (n + 1) + leadS p (s.data.toList.drop (n + 1)) by omega)
    have HQ := Lib.hid (show n + 1 ≤ s.size by omega)
    clear hN hpc
    go_wp2_with (go_at_fn g; refine (HP.out _).mono ?_; rintro e w' ⟨rfl, rfl⟩)
    go_round
    case rel => exact ⟨n + 1, HQ.out, by go_num, HN⟩
    case measure => have := HQ.out; simp [intOf]; omega
  ·have hN := HN.out
   rw [drop_end s n (by omega)] at hN
   have HN := Lib.hid (show R = n from hN)
   have hge : decide ((n : Int) < (s.size : Int)) = false := by simp; omega
   clear hN
   go_wp2
   go_ret
   exact ⟨by rw [HN.out]; rfl, rfl⟩
theorem enterWordB : ∀ args w, (callFunc 88 args).run Tryz.prog w = .ok (.enter 88 args) w := enters_of Tryz.func88 (by kernel_rfl) rfl
theorem leadWords (s : ByteArray) (w : World) (hs : s.size ≤ maxLen) :
  Calls Tryz.prog 87 #[.string s, .func (.func 88) #[] #[]] w fun e w' => e = .returned (.int .i64 (run true s.data.toList : Nat)) ∧ w' = w :=
 landLead _ wordB enterWordB landWordB s w hs
theorem dec_beq (a b : List UInt8) : decide (a = b) = (a == b) := by rw [Bool.eq_iff_iff, decide_eq_true_iff, beq_iff_eq]
theorem taken_or (s : ByteArray) : decide (s.data.toList ∈ reserved) = ((s.toList == [116, 114, 117, 101]) || ((s.toList == [102, 97, 108, 115, 101]) || ((s.toList == [112, 114, 101, 118]) || ((s.toList == [110, 101, 120, 116]) || ((s.toList == [111, 110, 99, 101]) || ((s.toList == [104, 105, 115, 116]) || ((s.toList == [115, 111, 109, 101]) || ((s.toList == [97, 108, 108]) || ((s.toList == [115, 105, 110, 99, 101]) || ((s.toList == [117, 110, 116, 105, 108]) || ((s.toList == [98, 97, 99, 107]) || ((s.toList == [102, 111, 114, 101]))))))))))))) := by
 rw [ByteArray.toList_eq]
 simp only [reserved, List.mem_cons, List.not_mem_nil, or_false, Bool.decide_or, dec_beq]
set_option maxHeartbeats 4000000 in
theorem landTaken (s : ByteArray) (w : World) :
  Calls Tryz.prog 73 #[.string s] w fun e w' => e = .returned (.bool (decide (s.data.toList ∈ reserved))) ∧ w' = w := by
 rw [taken_or]
 obtain ⟨b0, h0⟩ : ∃ b, (s.toList == [116, 114, 117, 101]) = b := ⟨_, rfl⟩
 obtain ⟨b1, h1⟩ : ∃ b, (s.toList == [102, 97, 108, 115, 101]) = b := ⟨_, rfl⟩
 obtain ⟨b2, h2⟩ : ∃ b, (s.toList == [112, 114, 101, 118]) = b := ⟨_, rfl⟩
 obtain ⟨b3, h3⟩ : ∃ b, (s.toList == [110, 101, 120, 116]) = b := ⟨_, rfl⟩
 obtain ⟨b4, h4⟩ : ∃ b, (s.toList == [111, 110, 99, 101]) = b := ⟨_, rfl⟩
 obtain ⟨b5, h5⟩ : ∃ b, (s.toList == [104, 105, 115, 116]) = b := ⟨_, rfl⟩
 obtain ⟨b6, h6⟩ : ∃ b, (s.toList == [115, 111, 109, 101]) = b := ⟨_, rfl⟩
 obtain ⟨b7, h7⟩ : ∃ b, (s.toList == [97, 108, 108]) = b := ⟨_, rfl⟩
 obtain ⟨b8, h8⟩ : ∃ b, (s.toList == [115, 105, 110, 99, 101]) = b := ⟨_, rfl⟩
 obtain ⟨b9, h9⟩ : ∃ b, (s.toList == [117, 110, 116, 105, 108]) = b := ⟨_, rfl⟩
 obtain ⟨b10, h10⟩ : ∃ b, (s.toList == [98, 97, 99, 107]) = b := ⟨_, rfl⟩
 obtain ⟨b11, h11⟩ : ∃ b, (s.toList == [102, 111, 114, 101]) = b := ⟨_, rfl⟩
 rw [h0, h1, h2, h3, h4, h5, h6, h7, h8, h9, h10, h11]
 rcases b0 with _ | _
 rotate_left
 ·go_enter Tryz.func73, Tryz.ntmps73
  go_wp2
  go_ret
  exact ⟨rfl, rfl⟩
 rcases b1 with _ | _
 rotate_left
 ·go_enter Tryz.func73, Tryz.ntmps73
  go_wp2
  go_ret
  exact ⟨rfl, rfl⟩
 rcases b2 with _ | _
 rotate_left
 ·go_enter Tryz.func73, Tryz.ntmps73
  go_wp2
  go_ret
  exact ⟨rfl, rfl⟩
 rcases b3 with _ | _
 rotate_left
 ·go_enter Tryz.func73, Tryz.ntmps73
  go_wp2
  go_ret
  exact ⟨rfl, rfl⟩
 rcases b4 with _ | _
 rotate_left
 ·go_enter Tryz.func73, Tryz.ntmps73
  go_wp2
  go_ret
  exact ⟨rfl, rfl⟩
 rcases b5 with _ | _
 rotate_left
 ·go_enter Tryz.func73, Tryz.ntmps73
  go_wp2
  go_ret
  exact ⟨rfl, rfl⟩
 rcases b6 with _ | _
 rotate_left
 ·go_enter Tryz.func73, Tryz.ntmps73
  go_wp2
  go_ret
  exact ⟨rfl, rfl⟩
 rcases b7 with _ | _
 rotate_left
 ·go_enter Tryz.func73, Tryz.ntmps73
  go_wp2
  go_ret
  exact ⟨rfl, rfl⟩
 rcases b8 with _ | _
 rotate_left
 ·go_enter Tryz.func73, Tryz.ntmps73
  go_wp2
  go_ret
  exact ⟨rfl, rfl⟩
 rcases b9 with _ | _
 rotate_left
 ·go_enter Tryz.func73, Tryz.ntmps73
  go_wp2
  go_ret
  exact ⟨rfl, rfl⟩
 rcases b10 with _ | _
 rotate_left
 ·go_enter Tryz.func73, Tryz.ntmps73
  go_wp2
  go_ret
  exact ⟨rfl, rfl⟩
 rcases b11 with _ | _
 rotate_left
 ·go_enter Tryz.func73, Tryz.ntmps73
  go_wp2
  go_ret
  exact ⟨rfl, rfl⟩
 go_enter Tryz.func73, Tryz.ntmps73
 go_wp2
 go_ret
 exact ⟨rfl, rfl⟩
def isWordS : List UInt8 → Bool
 | [] => false
 | c :: r => decide (r.length + 1 ≤ 16) && small c && decide (run true (c :: r) = r.length + 1)
theorem name_word (L : List UInt8) : nameS L = (isWordS L && !(decide (L ∈ reserved))) := by cases L <;> rfl
set_option maxHeartbeats 2000000 in
theorem landIsWord (s : ByteArray) (w : World) (hs : s.size ≤ maxLen) :
  Calls Tryz.prog 72 #[.string s] w fun e w' => e = .returned (.bool (isWordS s.data.toList)) ∧ w' = w := by
 have hlen : s.data.toList.length = s.size := Array.length_toList
 cases hL : s.data.toList with
 | nil =>
  have he : s.toList = [] := by rw [ByteArray.toList_eq]; exact hL
  have he2 : (!s.toList.isEmpty) = false := by rw [he]; rfl
  clear hlen hL hs
  go_enter Tryz.func72, Tryz.ntmps72
  go_wp2
  go_ret
  exact ⟨rfl, rfl⟩
 | cons c r =>
  have he : s.toList.isEmpty = false := by rw [ByteArray.toList_eq, hL]; rfl
  have hrl : r.length + 1 = s.size := by rw [← hlen, hL]; rfl
  have h0 : 0 < s.size := by omega
  have h0' : (0 : Int) < (s.size : Int) := by omega
  have hc : s[0] = c := by
   have := drop_get s 0 h0
   rw [List.drop_zero, hL] at this
   exact (List.cons.inj this).1.symm
  have hsm := fun W => landLetter c W
  have hrun := fun W => leadWords s W hs
  rw [hL] at hrun
  obtain ⟨n, hn⟩ : ∃ n, run true (c :: r) = n := ⟨_, rfl⟩
  rw [show isWordS (c :: r) = (decide (r.length + 1 ≤ 16) && small c && decide (run true (c :: r) = r.length + 1)) from rfl]
  rw [hn] at hrun ⊢
  rw [hrl]
  have HRUN := Lib.hid hrun
  by_cases h16 : s.size ≤ 16
  ·have h16' : (s.size : Int) ≤ 16 := by omega
   rw [decide_eq_true h16, Bool.true_and]
   rcases hbs : small c
   ·rw [hbs] at hsm
    have HSM := Lib.hid hsm
    rw [Bool.false_and]
    clear hlen hL hs hrl hn hsm hrun hbs
    go_enter Tryz.func72, Tryz.ntmps72
    go_wp2_with (go_at_call 86; refine (HSM.out _).mono ?_; rintro e w' ⟨rfl, rfl⟩)
    go_ret
    exact ⟨rfl, rfl⟩
   ·rw [hbs] at hsm
    have HSM := Lib.hid hsm
    rw [Bool.true_and]
    have hq : ((n : Int) == (s.size : Int)) = decide (n = s.size) := by
     rw [Bool.eq_iff_iff, beq_iff_eq, decide_eq_true_iff]
     exact Int.natCast_inj
    rw [← hq]
    clear hlen hL hs hrl hn hsm hrun hbs hq
    go_enter Tryz.func72, Tryz.ntmps72
    go_wp2_with (first
     | (go_at_call 86; refine (HSM.out _).mono ?_; rintro e w' ⟨rfl, rfl⟩)
     | (go_at_call 87; refine (HRUN.out _).mono ?_; rintro e w' ⟨rfl, rfl⟩))
    go_ret
    exact ⟨rfl, rfl⟩
  ·have h16' : decide ((s.size : Int) ≤ 16) = false := by simp; omega
   rw [decide_eq_false h16, Bool.false_and, Bool.false_and]
   clear hlen hL hs hrl hn hsm hrun h16
   go_enter Tryz.func72, Tryz.ntmps72
   go_wp2
   go_ret
   exact ⟨rfl, rfl⟩
set_option maxHeartbeats 1000000 in
theorem landName (s : ByteArray) (w : World) (hs : s.size ≤ maxLen) :
  Calls Tryz.prog 48 #[.string s] w fun e w' => e = .returned (.bool (nameS s.data.toList)) ∧ w' = w := by
 rw [name_word]
 have hw := fun W => landIsWord s W hs
 have ht := fun W => landTaken s W
 obtain ⟨a, ha⟩ : ∃ a, isWordS s.data.toList = a := ⟨_, rfl⟩
 obtain ⟨b, hb⟩ : ∃ b, decide (s.data.toList ∈ reserved) = b := ⟨_, rfl⟩
 rw [ha] at hw ⊢
 rw [hb] at ht ⊢
 have HW := Lib.hid hw
 have HT := Lib.hid ht
 clear hw ht ha hb hs
 cases a <;> cases b
 all_goals
  go_enter Tryz.func48, Tryz.ntmps48
  go_wp2_with (first
   | (go_at_call 72; refine (HW.out _).mono ?_; rintro e w' ⟨rfl, rfl⟩)
   | (go_at_call 73; refine (HT.out _).mono ?_; rintro e w' ⟨rfl, rfl⟩))
  go_ret
  exact ⟨rfl, rfl⟩
end Go.Proofs.YtdbgaccnejffpaaGreatDoor.Lex

namespace Go.Proofs.YtdbgaccnejffpaaGreatDoor.Trace
open Go.RowKit Go.Proofs.YtdbgaccnejffpaaGreatDoor.Ints Go.Proofs.YtdbgaccnejffpaaGreatDoor.Mem
set_option maxHeartbeats 4000000 in
set_option maxRecDepth 100000 in
theorem landNames (A : Option Addr) (n c : Nat) (l : List (List UInt8)) (w : World) (hl : l.length = n) (hnc : n ≤ c) (h : Strs w A l) (hs : ∀ s ∈ l, s.length ≤ maxLen) :
  Calls Tryz.prog 28 #[.slice A n c] w fun e w' => e = .returned (.bool (namesOk l)) ∧ w' = w := by
 by_cases h64 : n ≤ 64
 ·have hg : decide ((n : Int) > 64) = false := by simp; omega
  have hni : (n : Int) ≤ 64 := by omega
  have HL := Lib.hid hl
  have HD := Lib.hid h
  have HS := Lib.hid hs
  clear hl h hs
  go_enter Tryz.func28, Tryz.ntmps28
  go_wp2
  go_loop [10] (fun i => ∃ k : Nat, k ≤ n ∧ i = .int .i64 k ∧ Hid (∀ j, j < k → NameGood l j)) (fun i => n - (intOf i).toNat)
  case atStart => exact ⟨0, Nat.zero_le _, rfl, fun j hj => absurd hj (by omega)⟩
  case round =>
   obtain ⟨k, hk, rfl, HG⟩ := hrel
   by_cases hkn : k < n
   ·have hkn' : (k : Int) < (n : Int) := by omega
    have hkl : k < l.length := by have := HL.out; omega
    obtain ⟨b, off, e, hc⟩ := HD.out (by omega)
    have x0 := strs_at hc hkl
    obtain ⟨s, hse⟩ : ∃ s : ByteArray, s = ⟨(l.getD k []).toArray⟩ := ⟨_, rfl⟩
    have hsd : s.data.toList = l.getD k [] := by rw [hse]
    rw [← hse] at x0
    have hsz : s.size ≤ maxLen := by
     have h1 := HS.out (l.getD k []) (by simp [List.getD, hkl])
     rw [← hsd, Array.length_toList] at h1
     exact h1
    have hN := fun W => Lex.landName s W hsz
    have hC := fun W (hb : W = w) => containsStr A k c (l.take k) s W (by rw [List.length_take]; omega) (by omega) (hb ▸ HD.out.take k)
    rw [hsd] at hN hC
    subst e
    have HKL := Lib.hid hkl
    clear hse hsd hsz hc hkl
    rcases hnm : Lex.nameS (l.getD k [])
    ·have HR := Lib.hid (names_no HKL.out (fun e => by rw [e.1] at hnm; cases hnm))
     rw [hnm] at hN
     have HN := Lib.hid hN
     clear hN hC hnm
     go_wp2_with (go_at_call 48; refine (HN.out _).mono ?_; rintro e w' ⟨rfl, rfl⟩)
     go_ret
     exact ⟨by rw [HR.out]; rfl, rfl⟩
    ·rw [hnm] at hN
     have HN := Lib.hid hN
     by_cases hin : l.getD k [] ∈ l.take k
     ·have HR := Lib.hid (names_no HKL.out (fun e => e.2 hin))
      rw [decide_eq_true hin] at hC
      have HC := Lib.hid hC
      clear hN hC hnm hin
      go_wp2_with (first
       | (go_at_call 48; refine (HN.out _).mono ?_; rintro e w' ⟨rfl, rfl⟩)
       | (go_at_call 49; refine (HC.out _ rfl).mono ?_; rintro e w' ⟨rfl, rfl⟩))
      go_ret
      exact ⟨by rw [HR.out]; rfl, rfl⟩
     ·have HZ := Lib.hid (good_more HG.out ⟨hnm, hin⟩)
      rw [decide_eq_false hin] at hC
      have HC := Lib.hid hC
      clear hN hC hnm hin
      go_wp2_with (first
       | (go_at_call 48; refine (HN.out _).mono ?_; rintro e w' ⟨rfl, rfl⟩)
       | (go_at_call 49; refine (HC.out _ rfl).mono ?_; rintro e w' ⟨rfl, rfl⟩))
      go_round
      case rel => exact ⟨k + 1, by omega, by go_num, HZ⟩
      case measure => simp [intOf]; omega
   ·have hge : decide ((k : Int) < (n : Int)) = false := by simp; omega
    have HR := Lib.hid (names_yes (l := l) (by have := HL.out; omega) (fun j hj => HG.out j (by have := HL.out; omega)))
    go_wp2
    go_ret
    exact ⟨by rw [HR.out]; rfl, rfl⟩
 ·have hg : decide ((n : Int) > 64) = true := by simp; omega
  have HR := Lib.hid (names_long (l := l) (by omega))
  clear hl h hs
  go_enter Tryz.func28, Tryz.ntmps28
  go_wp2
  go_ret
  exact ⟨by rw [HR.out]; rfl, rfl⟩
def lastId (l : List Int) (k : Nat) : Int := if k = 0 then -1 else l.getD (k - 1) 0
theorem id_good {l : List Int} {p : Int} {k : Nat} (hG : ∀ j, j < k → IdGood l p j) : IdGood l p k ↔ lastId l k < l.getD k 0 ∧ l.getD k 0 < p := by
 have hpos : ∀ j, j < k → 0 ≤ l.getD j 0 := fun j hj => (hG j hj).1
 unfold lastId IdGood
 by_cases h0 : k = 0
 ·rw [if_pos h0]
  constructor
  ·rintro ⟨h1, h2, -⟩; exact ⟨by omega, h2⟩
  ·rintro ⟨h1, h2⟩; exact ⟨by omega, h2, fun h => absurd h (by omega)⟩
 ·rw [if_neg h0]
  have := hpos (k - 1) (by omega)
  constructor
  ·rintro ⟨h1, h2, h3⟩; exact ⟨h3 (by omega), h2⟩
  ·rintro ⟨h1, h2⟩; exact ⟨by omega, h2, fun _ => h1⟩
theorem lastId_next (l : List Int) (k : Nat) : lastId l (k + 1) = l.getD k 0 := by
 unfold lastId
 rw [if_neg (by omega), Nat.add_sub_cancel]
set_option maxHeartbeats 4000000 in
set_option maxRecDepth 100000 in
theorem landIds (A : Option Addr) (n c : Nat) (p : Int) (l : List Int) (w : World) (h : Rd .i64 w A n l) (hm : n ≤ maxLen) (hp : small64 p) :
  Calls Tryz.prog 29 #[.slice A n c, .int .i64 p] w fun e w' => e = .returned (.bool (idsOk l p)) ∧ w' = w := by
 have hni : (n : Int) ≤ 9223372036854775807 := by have : maxLen = 9223372036854775807 := rfl; omega
 obtain ⟨hp1, hp2⟩ := hp
 have HD := Lib.hid h
 have HL := Lib.hid h.len
 clear h hm
 go_enter Tryz.func29, Tryz.ntmps29
 go_wp2
 go_loop [5, 10] (fun a i => ∃ (k : Nat) (y : Int), k ≤ n ∧ i = .int .i64 k ∧ a = .int .i64 y ∧ -1 ≤ y ∧ y ≤ 9223372036854775807 ∧ Hid (y = lastId l k ∧ ∀ j, j < k → IdGood l p j)) (fun _ i => n - (intOf i).toNat)
 case atStart => exact ⟨0, -1, Nat.zero_le _, rfl, rfl, by decide, by decide, rfl, fun j hj => absurd hj (by omega)⟩
 case round =>
  obtain ⟨k, y, hk, rfl, rfl, hy1, hy2, HG⟩ := hrel
  by_cases hkn : k < n
  ·have hkn' : (k : Int) < (n : Int) := by omega
   obtain ⟨b, off, e, hc⟩ := HD.out.cell (by omega)
   have x0 := hc k hkn
   have hw := wf_i64 (HD.out.wf k hkn)
   have hgk : l.getD k 0 = l[k]?.getD 0 := by simp [List.getD]
   have hlen : k < l.length := by have := HL.out; omega
   obtain ⟨x, hx⟩ : ∃ x, l[k]?.getD 0 = x := ⟨_, rfl⟩
   rw [hx] at x0 hw hgk
   obtain ⟨hw1, hw2⟩ := hw
   subst e
   have hiff := id_good HG.out.2
   rw [hgk, ← HG.out.1] at hiff
   by_cases h1 : x ≤ y
   ·have HR := Lib.hid (ids_no (p := p) hlen (fun e => by have := (hiff.1 e).1; omega))
    clear hgk hlen hx hc hiff
    go_wp2
    go_ret
    exact ⟨by rw [HR.out]; rfl, rfl⟩
   ·have h1' : decide (x ≤ y) = false := decide_eq_false h1
    by_cases h2 : p ≤ x
    ·have h2' : decide (x ≥ p) = true := decide_eq_true h2
     have HR := Lib.hid (ids_no (p := p) hlen (fun e => by have := (hiff.1 e).2; omega))
     clear hgk hlen hx hc hiff
     go_wp2
     go_ret
     exact ⟨by rw [HR.out]; rfl, rfl⟩
    ·have h2' : decide (x ≥ p) = false := decide_eq_false h2
     have HZ := Lib.hid (good_more HG.out.2 (p := IdGood l p) (k := k) (hiff.2 ⟨by omega, by omega⟩))
     have HY := Lib.hid (show x = lastId l (k + 1) by rw [lastId_next, hgk])
     have hx1 : -1 ≤ x := by omega
     clear hgk hlen hx hc hiff
     go_wp2
     go_round
     case rel => exact ⟨k + 1, x, by omega, by go_num, rfl, hx1, hw2, HY.out, HZ.out⟩
     case measure => simp [intOf]; omega
  ·have hge : decide ((k : Int) < (n : Int)) = false := by simp; omega
   have HR := Lib.hid (ids_yes (l := l) (p := p) (fun j hj => HG.out.2 j (by have := HL.out; omega)))
   go_wp2
   go_ret
   exact ⟨by rw [HR.out]; rfl, rfl⟩
def lastTm (l : List Ev) (k : Nat) : Int := if k = 0 then 0 else (l.getD (k - 1) noEv).time
theorem ev_good {l : List Ev} {p : Int} {k : Nat} (ht : 0 ≤ (l.getD k noEv).time) : EvGood l p k ↔ idsOk (l.getD k noEv).ids p = true ∧ lastTm l k ≤ (l.getD k noEv).time := by
 unfold lastTm EvGood
 by_cases h0 : k = 0
 ·rw [if_pos h0]
  exact ⟨fun e => ⟨e.1, ht⟩, fun e => ⟨e.1, fun h => absurd h (by omega)⟩⟩
 ·rw [if_neg h0]
  exact ⟨fun e => ⟨e.1, e.2 (by omega)⟩, fun e => ⟨e.1, fun _ => e.2⟩⟩
theorem lastTm_next (l : List Ev) (k : Nat) : lastTm l (k + 1) = (l.getD k noEv).time := by
 unfold lastTm
 rw [if_neg (by omega), Nat.add_sub_cancel]
set_option maxHeartbeats 4000000 in
set_option maxRecDepth 100000 in
theorem landMay (NA : Option Addr) (nn nc : Nat) (EA : Option Addr) (ne ec : Nat) (t : Tr) (w : World) (h : TrOk Any w NA nn nc EA ne ec t) :
  Calls Tryz.prog 22 #[.agg #[.slice NA nn nc, .slice EA ne ec]] w fun e w' => e = .returned (.bool (mayT t)) ∧ Below w.heap.size w w' := by
 have hm : maxLen = 9223372036854775807 := rfl
 have hni : (nn : Int) ≤ 9223372036854775807 := by have := h.ncap; omega
 have hei : (ne : Int) ≤ 9223372036854775807 := by have := h.ecap; omega
 have HD := Lib.hid h
 have hN := fun W (hb : Below w.heap.size w W) => landNames NA nn nc t.names W h.nlen h.ncap.1 (h.names.below hb) h.sizes
 obtain ⟨ns, hns⟩ : ∃ b, namesOk t.names = b := ⟨_, rfl⟩
 rw [hns] at hN
 have HN := Lib.hid hN
 cases ns
 ·have HR := Lib.hid (show mayT t = false by unfold mayT; rw [hns]; rfl)
  clear h hN hns hm
  go_enter Tryz.func22, Tryz.ntmps22
  go_wp2_with (go_at_call 28; refine (HN.out _ ((Below.refl _ _).alloc (Nat.le_refl _) _)).mono ?_; rintro e w' ⟨rfl, rfl⟩)
  go_ret
  exact ⟨by rw [HR.out]; rfl, (Below.refl _ _).alloc (Nat.le_refl _) _⟩
 ·have HE := Lib.hid (show mayT t = evsOk t.events (nn : Int) by unfold mayT; rw [hns, h.nlen]; rfl)
  clear h hN hns hm
  go_enter Tryz.func22, Tryz.ntmps22
  go_wp2_with (go_at_call 28; refine (HN.out _ ((Below.refl _ _).alloc (Nat.le_refl _) _)).mono ?_; rintro e w' ⟨rfl, rfl⟩)
  go_loopw [3, 13] (fun a i wr => ∃ (k : Nat) (y : Int), k ≤ ne ∧ i = .int .i64 k ∧ a = .int .u64 y ∧ 0 ≤ y ∧ y ≤ 18446744073709551615 ∧ Hid (y = lastTm t.events k ∧ ∀ j, j < k → EvGood t.events (nn : Int) j) ∧ Below (w.heap.size + 1) (boxT w NA nn nc EA ne ec) wr) (fun _ i _ => ne - (intOf i).toNat)
  case atStart => exact ⟨0, 0, Nat.zero_le _, rfl, rfl, by decide, by decide, ⟨rfl, fun j hj => absurd hj (by omega)⟩, Below.refl _ _⟩
  case round =>
   obtain ⟨k, y, hk, rfl, rfl, hy1, hy2, HG, hB⟩ := hrel
   obtain ⟨t0, t1⟩ := boxT_at hB
   have t0' : ∀ o : Obj, (wr.alloc o).cell? ⟨w.heap.size, 0, none⟩ = some (.slice NA nn nc) := fun o => Lib.cell?_alloc_marked o t0
   have t1' : ∀ o : Obj, (wr.alloc o).cell? ⟨w.heap.size, 1, none⟩ = some (.slice EA ne ec) := fun o => Lib.cell?_alloc_marked o t1
   have HB := Lib.hid hB
   have HBS : w.heap.size + 1 ≤ wr.heap.size := by have := hB.size; simpa [boxT] using this
   clear hB
   by_cases hkn : k < ne
   ·have hkn' : (k : Int) < (ne : Int) := by omega
    have hk0 : (0 : Int) ≤ (k : Int) := by omega
    have HW := HD.out.below (boxT_below HB.out)
    have hlen : k < t.events.length := by rw [HW.elen]; exact hkn
    obtain ⟨b, off, e, hc⟩ := HW.evs (by omega)
    obtain ⟨x0, hw, K, c, x1, hK, hKc, hcK, -, -⟩ := hc k _ (List.getElem?_eq_getElem hlen)
    have hg : t.events.getD k noEv = t.events[k] := by simp [List.getD, hlen]
    rw [← hg] at x0 hw x1 hK hKc
    have hiff := ev_good (l := t.events) (p := (nn : Int)) (k := k) (wf_u64 hw).1
    rw [← HG.out.1] at hiff
    have hnext := lastTm_next t.events k
    obtain ⟨ev, hev⟩ : ∃ ev, t.events.getD k noEv = ev := ⟨_, rfl⟩
    rw [hev] at x0 hw x1 hK hKc hiff hnext
    rw [Nat.mul_comm 2 k] at x0 x1
    have hI := fun W (hb : Below wr.heap.size wr W) => landIds K ev.ids.length c (nn : Int) ev.ids W (hK.below hb) (Nat.le_trans hKc hcK) ⟨by omega, hni⟩
    obtain ⟨q, hq⟩ : ∃ q, ev.ids.length = q := ⟨_, rfl⟩
    rw [hq] at hI x1
    obtain ⟨tm, htm⟩ : ∃ tm, ev.time = tm := ⟨_, rfl⟩
    rw [htm] at x0 hw hiff hnext
    have HLEN := Lib.hid hlen
    subst e
    obtain ⟨hw1, hw2⟩ := wf_u64 hw
    rcases hid : idsOk ev.ids (nn : Int)
    ·have HR := Lib.hid (evs_no (p := (nn : Int)) hlen (fun e => by have := (hiff.1 e).1; rw [hid] at this; cases this))
     rw [hid] at hI
     have HI := Lib.hid hI
     clear hI hid hc hg hlen hev hw hK hKc hcK HW hq htm hiff hnext
     go_wp2_with (go_at_call 29; refine (HI.out _ ((Below.refl _ _).alloc (Nat.le_refl _) _)).mono ?_; rintro e w' ⟨rfl, rfl⟩)
     go_ret
     exact ⟨by rw [HE.out, HR.out]; rfl, ((boxT_below HB.out).alloc (boxT_below HB.out).size _)⟩
    ·rw [hid] at hI
     have HI := Lib.hid hI
     by_cases h3 : tm < y
     ·have HR := Lib.hid (evs_no (p := (nn : Int)) hlen (fun e => by have := (hiff.1 e).2; omega))
      clear hI hid hc hg hlen hev hw hK hKc hcK HW hq htm hiff hnext
      go_wp2_with (go_at_call 29; refine (HI.out _ ((Below.refl _ _).alloc (Nat.le_refl _) _)).mono ?_; rintro e w' ⟨rfl, rfl⟩)
      go_ret
      exact ⟨by rw [HE.out, HR.out]; rfl, ((boxT_below HB.out).alloc (boxT_below HB.out).size _)⟩
     ·have h3' : decide (tm < y) = false := decide_eq_false h3
      have HZ := Lib.hid (And.intro hnext.symm (good_more HG.out.2 (p := EvGood t.events (nn : Int)) (k := k) (hiff.2 ⟨hid, by omega⟩)))
      clear hI hid hc hg hlen hev hw hK hKc hcK HW hq htm hiff hnext
      go_wp2_with (go_at_call 29; refine (HI.out _ ((Below.refl _ _).alloc (Nat.le_refl _) _)).mono ?_; rintro e w' ⟨rfl, rfl⟩)
      go_roundw
      case rel => exact ⟨k + 1, tm, by omega, by go_num, rfl, hw1, hw2, HZ, HB.out.alloc HBS _⟩
      case measure => simp [intOf]; omega
   ·have hge : decide ((k : Int) < (ne : Int)) = false := by simp; omega
    have HR := Lib.hid (evs_yes (l := t.events) (p := (nn : Int)) (fun j hj => HG.out.2 j (by have := HD.out.elen; omega)))
    go_wp2
    go_ret
    exact ⟨by rw [HE.out, HR.out]; rfl, boxT_below HB.out⟩
theorem may_neg {t : Tr} (h : mayT t = true) {k : Nat} (hk : k < t.events.length) : (-1 : Int) ∉ (t.events.getD k noEv).ids := fun hm => by
 have h1 := ((evsOk_iff _ _).1 ((mayT_iff t).1 h).2 k hk).1
 obtain ⟨j, hj, e⟩ := List.getElem_of_mem hm
 have h2 := ((idsOk_iff _ _).1 h1 j hj).1
 rw [List.getD, List.getElem?_eq_getElem hj, Option.getD_some, e] at h2
 omega
theorem holds_idx {t : Tr} (h : mayT t = true) {k : Nat} (hk : k < t.events.length) (s : List UInt8) : holdsT t (k : Int) s = decide (idxL t.names s ∈ (t.events.getD k noEv).ids) := by
 unfold holdsT idxL
 rw [h, decide_eq_true (show (0 : Int) ≤ (k : Int) ∧ (k : Int) < (t.events.length : Int) by omega), Int.toNat_natCast]
 by_cases hs : s ∈ t.names
 ·rw [decide_eq_true hs, if_pos hs]
  rfl
 ·rw [decide_eq_false hs, if_neg hs, decide_eq_false (may_neg h hk)]
  rfl
end Go.Proofs.YtdbgaccnejffpaaGreatDoor.Trace

namespace Go.Proofs.YtdbgaccnejffpaaGreatDoor.Trace
open Go.RowKit Go.Proofs.YtdbgaccnejffpaaGreatDoor.Ints Go.Proofs.YtdbgaccnejffpaaGreatDoor.Mem
theorem containsInt (A : Option Addr) (n c : Nat) (l : List Int) (x : Int) (w : World) (hn : n ≤ maxLen) (h : Rd .i64 w A n l) :
  Calls Tryz.prog 56 #[.slice A n c, .int .i64 x] w fun e w' => e = .returned (.bool (decide (x ∈ l))) ∧ w' = w := by
 by_cases h0 : n = 0
 ·subst h0
  have : l = [] := List.eq_nil_of_length_eq_zero h.len
  subst this
  exact Tryz.slices_Contains_int_empty A c x w
 ·obtain ⟨b, off, rfl, hc⟩ := h.cell (by omega)
  refine (Tryz.slices_Contains_int b off n c l x w (by rw [h.len]; exact Nat.le_refl _) hn (fun j hj => by have := hc j (by rw [← h.len]; exact hj); simpa [List.getD] using this)).mono fun e w' ⟨he, hw⟩ => ⟨?_, hw⟩
  rw [he, List.take_of_length_le (by rw [h.len]; exact Nat.le_refl _)]
  congr 2
  rw [Bool.eq_iff_iff, decide_eq_true_iff, List.contains_iff_mem]
end Go.Proofs.YtdbgaccnejffpaaGreatDoor.Trace

namespace Go.Proofs.YtdbgaccnejffpaaGreatDoor.Trace
open Go.RowKit Go.Proofs.YtdbgaccnejffpaaGreatDoor.Ints Go.Proofs.YtdbgaccnejffpaaGreatDoor.Mem
end Go.Proofs.YtdbgaccnejffpaaGreatDoor.Trace
