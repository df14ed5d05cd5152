/-
  The walks of the landed lex's firstWord, firstNumber, firstSign and first. By an AI agent.
  The walks of the landed lex's first and skip. By an AI agent.
-/
import Derived.Test.YtnoghlhggeffnaaGreatDoorGParseSpoilt41
import Derived.Test.YtnoghlhggeffnaaGreatDoorGParseSpoilt7
import Derived.Lib.IndexAny
namespace Go.Proofs.YtnoghlhggeffnaaGreatDoor.Lex
open Go.RowKit

/-- A token by value. -/
def tokV (x : Nat × List UInt8 × Nat) : Value := .agg #[.int .i64 (x.1 : Int), .string (bytes x.2.1), .int .i64 (x.2.2 : Int), .int .i64 0]
/-- What first tells of a piece: the token, and how many bytes. -/
def firstOf : Option (Nat × Option (Nat × List UInt8 × Nat)) → (Nat × List UInt8 × Nat) × Nat
  | none => ((0, [], 0), 0)
  | some (n, none) => ((0, [], 0), n)
  | some (n, some x) => (x, n)
def FirstGot (w : World) (r : (Nat × List UInt8 × Nat) × Nat) (e : Ending) (w' : World) : Prop :=
  e = .returned (.tuple #[tokV r.1, .int .i64 (r.2 : Int)]) ∧ Below w.heap.size w w'

theorem enterDigit : ∀ args w, (callFunc 65 args).run Tryz.prog w = .ok (.enter 65 args) w := enters_of Tryz.func65 (by kernel_rfl) rfl
theorem enterBlank : ∀ args w, (callFunc 62 args).run Tryz.prog w = .ok (.enter 62 args) w := enters_of Tryz.func62 (by kernel_rfl) rfl

theorem leadDigits (s : ByteArray) (w : World) (hs : s.size ≤ maxLen) :
    Calls Tryz.prog 61 #[.string s, .func (.func 65) #[] #[]] w fun e w' => e = .returned (.int .i64 (run false s.data.toList : Nat)) ∧ w' = w :=
  landLead _ digit enterDigit landDigit s w hs
theorem leadBlanks (s : ByteArray) (w : World) (hs : s.size ≤ maxLen) :
    Calls Tryz.prog 61 #[.string s, .func (.func 62) #[] #[]] w fun e w' => e = .returned (.int .i64 (leadS blank s.data.toList : Nat)) ∧ w' = w :=
  landLead _ blank enterBlank landBlank s w hs

set_option maxHeartbeats 2000000 in
theorem landFirstWord (s : ByteArray) (w : World) (hs : s.size ≤ maxLen) :
    Calls Tryz.prog 64 #[.string s] w (FirstGot w (if 16 < run true s.data.toList then ((0, [], 0), 0) else ((1, s.data.toList.take (run true s.data.toList), 0), run true s.data.toList))) := by
  obtain ⟨n, hn⟩ : ∃ n, run true s.data.toList = n := ⟨_, rfl⟩
  have hle := run_le true s.data.toList
  rw [hn, Array.length_toList] at hle
  have hrun := fun W => leadWords s W hs
  rw [hn] at hrun ⊢
  have HRUN := Lib.hid hrun
  have hn1 : n ≤ s.size := hle
  have hm : s.size ≤ 9223372036854775807 := by have : maxLen = 9223372036854775807 := rfl; omega
  clear hrun hn hle hs
  by_cases h16 : 16 < n
  · have h16' : (16 : Int) < (n : Int) := by omega
    rw [if_pos h16]
    clear h16
    go_enter Tryz.func64, Tryz.ntmps64
    go_wp2_with (go_at_call 61; refine (HRUN.out _).mono ?_; rintro e w' ⟨rfl, rfl⟩)
    refine bodyPost_ret (v := .tuple #[tokV (0, [], 0), .int .i64 0]) (by simp [results, Tryz.results64, go_sem]; rfl) rfl ⟨rfl, ?_⟩
    exact (Below.refl _ _).alloc (Nat.le_refl _) _
  · have h16' : decide ((16 : Int) < (n : Int)) = false := by simp; omega
    rw [if_neg h16]
    obtain ⟨X, hX⟩ : ∃ X, s.extract 0 n = X := ⟨_, rfl⟩
    have HX := Lib.hid (show X = bytes (s.data.toList.take n) by rw [← hX, extract_bytes s 0 n n (by omega), List.drop_zero])
    clear h16
    go_enter Tryz.func64, Tryz.ntmps64
    go_wp2_with (go_at_call 61; refine (HRUN.out _).mono ?_; rintro e w' ⟨rfl, rfl⟩)
    refine bodyPost_ret (v := .tuple #[tokV (1, s.data.toList.take n, 0), .int .i64 n]) (by simp [results, Tryz.results64, go_sem]; rw [HX.out]; rfl) rfl ⟨rfl, ?_⟩
    exact (Below.refl _ _).alloc (Nat.le_refl _) _

set_option maxHeartbeats 4000000 in
theorem landFirstNumber (s : ByteArray) (c : UInt8) (r : List UInt8) (w : World) (hs : s.size ≤ maxLen) (hd : s.data.toList = c :: r) (hdg : digit c = true) :
    Calls Tryz.prog 66 #[.string s] w (FirstGot w (if 4 < run false (c :: r) ∨ (c.toNat = 48 ∧ 1 < run false (c :: r)) then ((0, [], 0), 0) else ((2, [], numOf ((c :: r).take (run false (c :: r)))), run false (c :: r)))) := by
  obtain ⟨n, hn⟩ : ∃ n, run false (c :: r) = n := ⟨_, rfl⟩
  have hn1 : 1 ≤ n := by rw [← hn]; exact run_pos hdg
  have hle := run_le false s.data.toList
  rw [hd, hn, ← hd, Array.length_toList] at hle
  have hle : n ≤ s.size := hle
  have hrun := fun W => leadDigits s W hs
  rw [hd, hn] at hrun
  rw [hn]
  have HRUN := Lib.hid hrun
  have hm : s.size ≤ 9223372036854775807 := by have : maxLen = 9223372036854775807 := rfl; omega
  have hp0 : 0 < s.size := by omega
  have hp0' : (0 : Int) < (s.size : Int) := by omega
  have hs0 : s[0] = c := by
    have := drop_get s 0 hp0
    rw [List.drop_zero, hd] at this
    exact (List.cons.inj this).1.symm
  have HD := Lib.hid hd
  have HRD := Lib.hid hn
  have HZ := Lib.hid hm
  clear hrun hn hs hd
  by_cases h4 : 4 < n
  · have h4' : (4 : Int) < (n : Int) := by omega
    rw [if_pos (Or.inl h4)]
    clear h4
    go_enter Tryz.func66, Tryz.ntmps66
    go_wp2_with (go_at_call 61; refine (HRUN.out _).mono ?_; rintro e w' ⟨rfl, rfl⟩)
    refine bodyPost_ret (v := .tuple #[tokV (0, [], 0), .int .i64 0]) (by simp [results, Tryz.results66, go_sem]; rfl) rfl ⟨rfl, ?_⟩
    exact (Below.refl _ _).alloc (Nat.le_refl _) _
  · have h4' : decide ((4 : Int) < (n : Int)) = false := by simp; omega
    have hn4 : n ≤ 4 := by omega
    by_cases h48 : c.toNat = 48 ∧ 1 < n
    · obtain ⟨h48, h1⟩ := h48
      have h48' : (c.toNat : Int) = 48 := by omega
      have h1' : (1 : Int) < (n : Int) := by omega
      rw [if_pos (Or.inr ⟨h48, h1⟩)]
      clear h48 h1 h4 hdg
      go_enter Tryz.func66, Tryz.ntmps66
      go_wp2_with (go_at_call 61; refine (HRUN.out _).mono ?_; rintro e w' ⟨rfl, rfl⟩)
      refine bodyPost_ret (v := .tuple #[tokV (0, [], 0), .int .i64 0]) (by simp [results, Tryz.results66, go_sem]; rfl) rfl ⟨rfl, ?_⟩
      exact (Below.refl _ _).alloc (Nat.le_refl _) _
    · rw [if_neg (by omega)]
      have hcases : (n = 1 ∧ decide ((1 : Int) < (n : Int)) = false) ∨ ((1 : Int) < (n : Int) ∧ ((c.toNat : Int) == 48) = false) := by
        by_cases h1 : 1 < n
        · exact Or.inr ⟨by omega, by simp only [beq_eq_false_iff_ne]; omega⟩
        · exact Or.inl ⟨by omega, by simp; omega⟩
      clear h48 h4 hdg
      rcases hcases with ⟨-, hA⟩ | ⟨hA, hB⟩
      all_goals
        go_enter Tryz.func66, Tryz.ntmps66
        go_wp2_with (go_at_call 61; refine (HRUN.out _).mono ?_; rintro e w' ⟨rfl, rfl⟩)
        go_loop [5, 6, 22] (fun x _ i => ∃ k : Nat, k ≤ n ∧ i = .int .i64 k ∧ x = .int .i64 (numOf ((c :: r).take k) : Nat)) (fun _ _ i => n - (intOf i).toNat)
        case atStart => exact ⟨0, Nat.zero_le _, rfl, by rw [List.take_zero]; rfl⟩
        case round =>
          obtain ⟨k, hk, rfl, rfl⟩ := hrel
          by_cases hkn : k < n
          · have hkn' : (k : Int) < (n : Int) := by omega
            have hk1 : k + 1 ≤ n := by omega
            have hpk : 0 + k < s.size := by omega
            have hqs' : k < s.size := by omega
            have hqs : (k : Int) < (s.size : Int) := Int.ofNat_lt.2 hqs'
            have hg := get_drop s 0 k hpk
            rw [List.drop_zero] at hg
            obtain ⟨d, hd1, hd2⟩ := run_digits (c :: r) k (by rw [HRD.out]; exact hkn)
            have hlt := numOf_lt k (c :: r) (by rw [HRD.out]; exact hk)
            have hstep := numOf_take (c :: r) k d hd1
            have hpow : 10 ^ k ≤ 10 ^ 4 := Nat.pow_le_pow_right (by decide) (Nat.le_trans hk hn4)
            rw [HD.out, hd1] at hg
            have hgd : s[k]'hqs' = d := by
              have e : s[0 + k]'hpk = s[k]'hqs' := by congr 1; omega
              rw [← e]; exact (Option.some.inj hg).symm
            obtain ⟨x, hx⟩ : ∃ x, numOf ((c :: r).take k) = x := ⟨_, rfl⟩
            rw [hx] at hlt hstep ⊢
            simp only [digit, decide_eq_true_eq] at hd2
            obtain ⟨y, hy⟩ : ∃ y, d.toNat - 48 = y := ⟨_, rfl⟩
            rw [hy] at hstep
            obtain ⟨e5, e6, e7, e8⟩ := num_facts (Nat.lt_of_lt_of_le hlt hpow) hd2 hy
            have HST := Lib.hid hstep
            clear hstep hd1 hg hpow hpk hd2 hx hy hlt
            go_wp2_with fail
            go_round
            case rel =>
              refine ⟨k + 1, hk1, by go_num, ?_⟩
              rw [HST.out, Int.natCast_add, Int.natCast_mul]
              exact congrArg (Value.int .i64) e8
            case measure =>
              clear e5 e6 e7 e8
              simp [intOf]; omega
          · have hkn' : decide ((k : Int) < (n : Int)) = false := by simp; omega
            have e : k = n := by omega
            subst e
            obtain ⟨V, hV⟩ : ∃ V, numOf ((c :: r).take k) = V := ⟨_, rfl⟩
            rw [hV]
            have HV := Lib.hid hV
            clear hV
            go_wp2_with fail
            refine bodyPost_ret (v := .tuple #[tokV (2, [], V), .int .i64 k]) (by simp [results, Tryz.results66, go_sem]; rfl) rfl ⟨by rw [HV.out], ?_⟩
            exact (Below.refl _ _).alloc (Nat.le_refl _) _

def signBytes : List UInt8 := [40, 41, 91, 93, 123, 125, 44, 42, 46, 63, 43, 59, 33, 38, 124]
theorem sign_contains (c : UInt8) : signBytes.contains c = isSign c := by
  have e : signs = signBytes.map (·.toNat) := by decide
  unfold isSign
  rw [e, List.contains_eq_mem]
  refine decide_eq_decide.2 ⟨fun h => List.mem_map_of_mem h, fun h => ?_⟩
  obtain ⟨x, hx, he⟩ := List.mem_map.1 h
  rwa [← UInt8.toNat_inj.1 he]
theorem u8_back (c : UInt8) : (c.toNat : Int).toNat.toUInt8 = c := by
  rw [Int.toNat_natCast]
  exact UInt8.ofNat_toNat
theorem sign_index (c : UInt8) : decide ((0 : Int) ≤ Go.Lib.indexByte signBytes (c.toNat : Int).toNat.toUInt8) = isSign c := by
  rw [u8_back, ← Go.Lib.contains_iff_indexByte, sign_contains]
def arrowB (c : UInt8) (r : List UInt8) : Bool := decide (c.toNat = 45 ∧ r.head?.map (·.toNat) = some 62)
theorem arrow_prefix (c : UInt8) (r : List UInt8) : Go.Lib.hasPrefix (c :: r) [45, 62] = arrowB c r := by
  unfold Go.Lib.hasPrefix arrowB
  have n45 : ((45 : UInt8) == c) = decide (c.toNat = 45) := by
    rw [Bool.eq_iff_iff, beq_iff_eq, decide_eq_true_iff]
    exact ⟨fun h => by rw [← h]; rfl, fun h => UInt8.toNat_inj.1 (h ▸ rfl)⟩
  cases r with
  | nil => simp [List.isPrefixOf]
  | cons d r =>
    have n62 : ((62 : UInt8) == d) = decide (d.toNat = 62) := by
      rw [Bool.eq_iff_iff, beq_iff_eq, decide_eq_true_iff]
      exact ⟨fun h => by rw [← h]; rfl, fun h => UInt8.toNat_inj.1 (h ▸ rfl)⟩
    show ((45 == c) && ((62 == d) && true)) = _
    rw [n45, n62, Bool.and_true, ← Bool.decide_and]
    exact decide_eq_decide.2 (by simp)
theorem arrow_more {c : UInt8} {r : List UInt8} (h : arrowB c r = true) : ∃ q, c :: r = 45 :: 62 :: q := by
  unfold arrowB at h
  obtain ⟨h1, h2⟩ := decide_eq_true_iff.1 h
  cases r with
  | nil => simp at h2
  | cons d q =>
    simp at h2
    exact ⟨q, by rw [UInt8.toNat_inj.1 (h1.trans (show 45 = (45 : UInt8).toNat from rfl)), UInt8.toNat_inj.1 (h2.trans (show 62 = (62 : UInt8).toNat from rfl))]⟩

set_option maxHeartbeats 4000000 in
theorem landFirstSign (s : ByteArray) (c : UInt8) (r : List UInt8) (w : World) (hs : s.size ≤ maxLen) (hd : s.data.toList = c :: r) :
    Calls Tryz.prog 67 #[.string s] w (FirstGot w (if arrowB c r then ((3, [45, 62], 0), 2) else if isSign c then ((3, [c], 0), 1) else ((0, [], 0), 0))) := by
  have hm : s.size ≤ 9223372036854775807 := by have : maxLen = 9223372036854775807 := rfl; omega
  have hlen : s.data.toList.length = s.size := Array.length_toList
  have hp0 : 0 < s.size := by rw [← hlen, hd]; simp
  have hp0' : (0 : Int) < (s.size : Int) := by omega
  have hs0 : s[0] = c := by
    have := drop_get s 0 hp0
    rw [List.drop_zero, hd] at this
    exact (List.cons.inj this).1.symm
  have hpre := fun W => Tryz.strings_HasPrefix s ⟨#[45, 62]⟩ W
  rw [hd, show (({ data := #[45, 62] } : ByteArray).data.toList) = [45, 62] from rfl, arrow_prefix] at hpre
  have hidx := fun W => Tryz.strings_IndexByte ⟨#[40, 41, 91, 93, 123, 125, 44, 42, 46, 63, 43, 59, 33, 38, 124]⟩ (c.toNat : Int) W
  have hsi := sign_index c
  rw [show (({ data := #[40, 41, 91, 93, 123, 125, 44, 42, 46, 63, 43, 59, 33, 38, 124] } : ByteArray).data.toList) = signBytes from rfl] at hidx
  obtain ⟨X, hX⟩ : ∃ X, Go.Lib.indexByte signBytes (c.toNat : Int).toNat.toUInt8 = X := ⟨_, rfl⟩
  rw [hX] at hidx hsi
  have HIDX := Lib.hid hidx
  clear hX hidx
  rcases ha : arrowB c r
  · rw [ha] at hpre
    have HPRE := Lib.hid hpre
    clear hpre ha
    rcases hsg : isSign c
    · rw [hsg] at hsi
      clear hd hlen hsg
      go_enter Tryz.func67, Tryz.ntmps67
      go_wp2_with (first
        | (go_at_call 80; refine (HPRE.out _).mono ?_; rintro e w' ⟨rfl, rfl⟩)
        | (go_at_call 81; refine (HIDX.out _).mono ?_; rintro e w' ⟨rfl, rfl⟩))
      refine bodyPost_ret (v := .tuple #[tokV (0, [], 0), .int .i64 0]) (by simp [results, Tryz.results67, go_sem]; rfl) rfl ⟨rfl, ?_⟩
      exact (Below.refl _ _).alloc (Nat.le_refl _) _
    · rw [hsg] at hsi
      obtain ⟨Y, hY⟩ : ∃ Y, s.extract 0 1 = Y := ⟨_, rfl⟩
      have HY := Lib.hid (show Y = bytes [c] by rw [← hY, extract_bytes s 0 1 1 rfl, List.drop_zero, hd]; rfl)
      have hp1 : (1 : Int) ≤ (s.size : Int) := by omega
      have hX0 : (0 : Int) ≤ X := decide_eq_true_iff.1 hsi
      clear hd hlen hsg hsi
      go_enter Tryz.func67, Tryz.ntmps67
      go_wp2_with (first
        | (go_at_call 80; refine (HPRE.out _).mono ?_; rintro e w' ⟨rfl, rfl⟩)
        | (go_at_call 81; refine (HIDX.out _).mono ?_; rintro e w' ⟨rfl, rfl⟩))
      refine bodyPost_ret (v := .tuple #[tokV (3, [c], 0), .int .i64 1]) (by simp [results, Tryz.results67, go_sem]; rw [HY.out]; rfl) rfl ⟨rfl, ?_⟩
      exact (Below.refl _ _).alloc (Nat.le_refl _) _
  · rw [ha] at hpre
    have HPRE := Lib.hid hpre
    obtain ⟨q, hq⟩ := arrow_more ha
    obtain ⟨Y, hY⟩ : ∃ Y, s.extract 0 2 = Y := ⟨_, rfl⟩
    have HY := Lib.hid (show Y = bytes [45, 62] by rw [← hY, extract_bytes s 0 2 2 rfl, List.drop_zero, hd, hq]; rfl)
    have hp2 : (2 : Int) ≤ (s.size : Int) := by
      have : 2 ≤ s.data.toList.length := by rw [hd, hq]; simp
      omega
    clear hpre ha hd hq hlen hsi
    go_enter Tryz.func67, Tryz.ntmps67
    go_wp2_with (first
      | (go_at_call 80; refine (HPRE.out _).mono ?_; rintro e w' ⟨rfl, rfl⟩)
      | (go_at_call 81; refine (HIDX.out _).mono ?_; rintro e w' ⟨rfl, rfl⟩))
    refine bodyPost_ret (v := .tuple #[tokV (3, [45, 62], 0), .int .i64 2]) (by simp [results, Tryz.results67, go_sem]; rw [HY.out]; rfl) rfl ⟨rfl, ?_⟩
    exact (Below.refl _ _).alloc (Nat.le_refl _) _
end Go.Proofs.YtnoghlhggeffnaaGreatDoor.Lex

namespace Go.Proofs.YtnoghlhggeffnaaGreatDoor.Lex
open Go.RowKit

theorem fcell {W w1 : World} (hb : Below W.heap.size W w1) : (∀ b o, b < W.heap.size → w1.cell? ⟨b, o, none⟩ = W.cell? ⟨b, o, none⟩) ∧ (∀ b o, b < W.heap.size → w1.frozen? ⟨b, o, none⟩ = W.frozen? ⟨b, o, none⟩) :=
  ⟨fun b o h => hb.cell (p := ⟨b, o, none⟩) h, fun b o h => hb.frozen (p := ⟨b, o, none⟩) h⟩

theorem piece_first {c : UInt8} {r : List UInt8} (hb : blank c = false) : firstOf (piece c r) =
    if small c = true then (if 16 < run true (c :: r) then ((0, [], 0), 0) else ((1, (c :: r).take (run true (c :: r)), 0), run true (c :: r)))
    else if digit c = true then (if 4 < run false (c :: r) ∨ (c.toNat = 48 ∧ 1 < run false (c :: r)) then ((0, [], 0), 0) else ((2, [], numOf ((c :: r).take (run false (c :: r)))), run false (c :: r)))
    else (if arrowB c r then ((3, [45, 62], 0), 2) else if isSign c then ((3, [c], 0), 1) else ((0, [], 0), 0)) := by
  unfold piece
  rw [if_neg (by rw [hb]; decide)]
  by_cases h2 : small c = true
  · rw [if_pos h2, if_pos h2]
    by_cases h : 16 < run true (c :: r)
    · rw [if_pos h, if_pos h]; rfl
    · rw [if_neg h, if_neg h]; rfl
  · rw [if_neg h2, if_neg h2]
    by_cases h3 : digit c = true
    · rw [if_pos h3, if_pos h3]
      by_cases h : 4 < run false (c :: r) ∨ (c.toNat = 48 ∧ 1 < run false (c :: r))
      · rw [if_pos h, if_pos h]; rfl
      · rw [if_neg h, if_neg h]; rfl
    · rw [if_neg h3, if_neg h3]
      by_cases h : c.toNat = 45 ∧ r.head?.map (·.toNat) = some 62
      · rw [if_pos h, if_pos (show arrowB c r = true from decide_eq_true h)]; rfl
      · rw [if_neg h, if_neg (show ¬ arrowB c r = true by unfold arrowB; rw [decide_eq_false h]; decide)]
        by_cases h5 : isSign c = true
        · rw [if_pos h5, if_pos h5]; rfl
        · rw [if_neg h5, if_neg h5]; rfl

theorem below_four {w w1 : World} {o : Obj} (hb : Below (w.alloc o).heap.size (w.alloc o) w1) (u0 u1 u2 u3 : Value) :
    Below w.heap.size w ((((w1.setCell ⟨w.heap.size, 0, none⟩ u0).setCell ⟨w.heap.size, 1, none⟩ u1).setCell ⟨w.heap.size, 2, none⟩ u2).setCell ⟨w.heap.size, 3, none⟩ u3) := by
  have h0 : Below w.heap.size w w1 := ((Below.refl _ w).alloc (Nat.le_refl _) o).trans (hb.mono (by simp))
  exact (((h0.setCell (p := ⟨w.heap.size, 0, none⟩) (Nat.le_refl _) u0).setCell (p := ⟨w.heap.size, 1, none⟩) (Nat.le_refl _) u1).setCell (p := ⟨w.heap.size, 2, none⟩) (Nat.le_refl _) u2).setCell (p := ⟨w.heap.size, 3, none⟩) (Nat.le_refl _) u3
/-- What a call that tells a token by value leaves, laid open. -/
theorem first_laid {f : FuncId} {s : ByteArray} {x1 : Nat} {x2 : List UInt8} {x3 n : Nat} {W : World} (h : Calls Tryz.prog f #[.string s] W (FirstGot W ((x1, x2, x3), n))) :
    Calls Tryz.prog f #[.string s] W fun e w' => e = .returned (.tuple #[.agg #[.int .i64 (x1 : Int), .string (bytes x2), .int .i64 (x3 : Int), .int .i64 0], .int .i64 (n : Int)]) ∧ Below W.heap.size W w' := h.mono fun _ _ h => h

set_option maxHeartbeats 4000000 in
theorem landFirst (s : ByteArray) (c : UInt8) (r : List UInt8) (w : World) (hs : s.size ≤ maxLen) (hd : s.data.toList = c :: r) (hbl : blank c = false) :
    Calls Tryz.prog 50 #[.string s] w (FirstGot w (firstOf (piece c r))) := by
  rw [piece_first hbl]
  have hlen : s.data.toList.length = s.size := Array.length_toList
  have hp0 : 0 < s.size := by rw [← hlen, hd]; simp
  have hp0' : (0 : Int) < (s.size : Int) := by omega
  have hs0 : s[0] = c := by
    have := drop_get s 0 hp0
    rw [List.drop_zero, hd] at this
    exact (List.cons.inj this).1.symm
  have hL := fun W => landLetter c W
  have hDG := fun W => landDigit c W
  have hW := fun W => landFirstWord s W hs
  rw [hd] at hW
  rcases hsm : small c
  · rw [if_neg (by decide)]
    rw [hsm] at hL
    have HL := Lib.hid hL
    rcases hdg : digit c
    · rw [if_neg (by decide)]
      rw [hdg] at hDG
      have HDG := Lib.hid hDG
      have hS := fun W => landFirstSign s c r W hs hd
      obtain ⟨R, hR⟩ : ∃ R, (if arrowB c r then ((3, [45, 62], 0), 2) else if isSign c then ((3, [c], 0), 1) else ((0, [], 0), 0) : (Nat × List UInt8 × Nat) × Nat) = R := ⟨_, rfl⟩
      rw [hR] at hS ⊢
      obtain ⟨⟨x1, x2, x3⟩, n⟩ := R
      have HS := Lib.hid (fun W => first_laid (hS W))
      clear hL hDG hW hS hR hdg hsm hd hs hlen hbl
      go_enter Tryz.func50, Tryz.ntmps50
      go_wp2_with (first
        | (go_at_call 63; refine (HL.out _).mono ?_; rintro e w' ⟨rfl, rfl⟩)
        | (go_at_call 65; refine (HDG.out _).mono ?_; rintro e w' ⟨rfl, rfl⟩)
        | (go_at_call 67; refine (HS.out _).mono ?_; rintro e w1 ⟨rfl, hb⟩; obtain ⟨hc, hf⟩ := fcell hb; have hz : w.heap.size < w1.heap.size := by have := hb.size; simp at this; omega))
      refine bodyPost_ret (v := .tuple #[tokV (x1, x2, x3), .int .i64 n]) (by simp [results, Tryz.results50, go_sem, hc]; rfl) rfl ⟨rfl, below_four hb _ _ _ _⟩
    · rw [if_pos rfl]
      rw [hdg] at hDG
      have HDG := Lib.hid hDG
      have hS := fun W => landFirstNumber s c r W hs hd hdg
      obtain ⟨R, hR⟩ : ∃ R, (if 4 < run false (c :: r) ∨ (c.toNat = 48 ∧ 1 < run false (c :: r)) then ((0, [], 0), 0) else ((2, [], numOf ((c :: r).take (run false (c :: r)))), run false (c :: r)) : (Nat × List UInt8 × Nat) × Nat) = R := ⟨_, rfl⟩
      rw [hR] at hS ⊢
      obtain ⟨⟨x1, x2, x3⟩, n⟩ := R
      have HS := Lib.hid (fun W => first_laid (hS W))
      clear hL hDG hW hS hR hdg hsm hd hs hlen hbl
      go_enter Tryz.func50, Tryz.ntmps50
      go_wp2_with (first
        | (go_at_call 63; refine (HL.out _).mono ?_; rintro e w' ⟨rfl, rfl⟩)
        | (go_at_call 65; refine (HDG.out _).mono ?_; rintro e w' ⟨rfl, rfl⟩)
        | (go_at_call 66; refine (HS.out _).mono ?_; rintro e w1 ⟨rfl, hb⟩; obtain ⟨hc, hf⟩ := fcell hb; have hz : w.heap.size < w1.heap.size := by have := hb.size; simp at this; omega))
      refine bodyPost_ret (v := .tuple #[tokV (x1, x2, x3), .int .i64 n]) (by simp [results, Tryz.results50, go_sem, hc]; rfl) rfl ⟨rfl, below_four hb _ _ _ _⟩
  · rw [if_pos rfl]
    rw [hsm] at hL
    have HL := Lib.hid hL
    obtain ⟨R, hR⟩ : ∃ R, (if 16 < run true (c :: r) then ((0, [], 0), 0) else ((1, (c :: r).take (run true (c :: r)), 0), run true (c :: r)) : (Nat × List UInt8 × Nat) × Nat) = R := ⟨_, rfl⟩
    rw [hR] at hW ⊢
    obtain ⟨⟨x1, x2, x3⟩, n⟩ := R
    have HS := Lib.hid (fun W => first_laid (hW W))
    clear hL hDG hW hR hsm hd hs hlen hbl
    go_enter Tryz.func50, Tryz.ntmps50
    go_wp2_with (first
      | (go_at_call 63; refine (HL.out _).mono ?_; rintro e w' ⟨rfl, rfl⟩)
      | (go_at_call 64; refine (HS.out _).mono ?_; rintro e w1 ⟨rfl, hb⟩; obtain ⟨hc, hf⟩ := fcell hb; have hz : w.heap.size < w1.heap.size := by have := hb.size; simp at this; omega))
    refine bodyPost_ret (v := .tuple #[tokV (x1, x2, x3), .int .i64 n]) (by simp [results, Tryz.results50, go_sem, hc]; rfl) rfl ⟨rfl, below_four hb _ _ _ _⟩

set_option maxHeartbeats 1000000 in
theorem landSkip (s : ByteArray) (p : Nat) (w : World) (hp : p ≤ s.size) (hs : s.size ≤ maxLen) :
    Calls Tryz.prog 49 #[.string s, .int .i64 (p : Int)] w fun e w' => e = .returned (.int .i64 ((p + leadS blank (s.data.toList.drop p) : Nat) : Int)) ∧ w' = w := by
  have hm : s.size ≤ 9223372036854775807 := by have : maxLen = 9223372036854775807 := rfl; omega
  have hp' : (p : Int) ≤ (s.size : Int) := by omega
  obtain ⟨Y, hY⟩ : ∃ Y, s.extract p s.size = Y := ⟨_, rfl⟩
  have hYd : Y.data.toList = s.data.toList.drop p := by
    rw [← hY, extract_bytes s p (s.size - p) s.size (by omega)]
    show (s.data.toList.drop p).take (s.size - p) = _
    exact List.take_of_length_le (by rw [List.length_drop, Array.length_toList]; exact Nat.le_refl _)
  have hYs : Y.size ≤ maxLen := by
    have e : Y.size = Y.data.toList.length := Array.length_toList.symm
    rw [e, hYd, List.length_drop, Array.length_toList]
    have : s.data.size = s.size := rfl
    omega
  have hB := fun W => leadBlanks Y W hYs
  rw [hYd] at hB
  obtain ⟨k, hk⟩ : ∃ k, leadS blank (s.data.toList.drop p) = k := ⟨_, rfl⟩
  have hkl : p + k ≤ s.size := by
    have : k ≤ (s.data.toList.drop p).length := by rw [← hk]; exact (List.takeWhile_prefix _).length_le
    rw [List.length_drop, Array.length_toList] at this
    have : s.data.size = s.size := rfl
    omega
  rw [hk] at hB ⊢
  have HB := Lib.hid hB
  have hsum : (p : Int) + (k : Int) ≤ 9223372036854775807 := by omega
  clear hB hk hYd hYs hs
  go_enter Tryz.func49, Tryz.ntmps49
  go_wp2_with (go_at_call 61; refine (HB.out _).mono ?_; rintro e w' ⟨rfl, rfl⟩)
  go_ret
  exact ⟨by rw [Int.natCast_add]; rfl, rfl⟩
end Go.Proofs.YtnoghlhggeffnaaGreatDoor.Lex
