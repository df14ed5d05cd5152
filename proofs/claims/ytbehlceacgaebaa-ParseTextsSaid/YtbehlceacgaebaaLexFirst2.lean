/-
  The walks of the landed lex's first and skip. By an AI agent.
-/
import Derived.Test.YtbehlceacgaebaaLexFirst
namespace Go.Proofs.Ytbehlceacgaebaa.Lex
open Go.RowKit

theorem fcell {W w1 : World} (hb : Below W.heap.size W w1) : (∀ b o, b < W.heap.size → w1.cell? ⟨b, o, none⟩ = W.cell? ⟨b, o, none⟩) ∧ (∀ b o, b < W.heap.size → w1.frozen? ⟨b, o, none⟩ = W.frozen? ⟨b, o, none⟩) :=
  ⟨fun b o h => hb.cell (p := ⟨b, o, none⟩) h, fun b o h => hb.frozen (p := ⟨b, o, none⟩) h⟩

theorem piece_first {c : UInt8} {r : List UInt8} (hb : blank c = false) : firstOf (piece c r) =
    if small c = true then (if 16 < run true (c :: r) then ((0, [], 0), 0) else ((1, (c :: r).take (run true (c :: r)), 0), run true (c :: r)))
    else if digit c = true then (if 4 < run false (c :: r) ∨ (c.toNat = 48 ∧ 1 < run false (c :: r)) then ((0, [], 0), 0) else ((2, [], numOf ((c :: r).take (run false (c :: r)))), run false (c :: r)))
    else (if arrowB c r then ((3, [45, 62], 0), 2) else if isSign c then ((3, [c], 0), 1) else ((0, [], 0), 0)) := by
  unfold piece
  rw [if_neg (by rw [hb]; decide)]
  by_cases h2 : small c = true
  · rw [if_pos h2, if_pos h2]
    by_cases h : 16 < run true (c :: r)
    · rw [if_pos h, if_pos h]; rfl
    · rw [if_neg h, if_neg h]; rfl
  · rw [if_neg h2, if_neg h2]
    by_cases h3 : digit c = true
    · rw [if_pos h3, if_pos h3]
      by_cases h : 4 < run false (c :: r) ∨ (c.toNat = 48 ∧ 1 < run false (c :: r))
      · rw [if_pos h, if_pos h]; rfl
      · rw [if_neg h, if_neg h]; rfl
    · rw [if_neg h3, if_neg h3]
      by_cases h : c.toNat = 45 ∧ r.head?.map (·.toNat) = some 62
      · rw [if_pos h, if_pos (show arrowB c r = true from decide_eq_true h)]; rfl
      · rw [if_neg h, if_neg (show ¬ arrowB c r = true by unfold arrowB; rw [decide_eq_false h]; decide)]
        by_cases h5 : isSign c = true
        · rw [if_pos h5, if_pos h5]; rfl
        · rw [if_neg h5, if_neg h5]; rfl

theorem below_four {w w1 : World} {o : Obj} (hb : Below (w.alloc o).heap.size (w.alloc o) w1) (u0 u1 u2 u3 : Value) :
    Below w.heap.size w ((((w1.setCell ⟨w.heap.size, 0, none⟩ u0).setCell ⟨w.heap.size, 1, none⟩ u1).setCell ⟨w.heap.size, 2, none⟩ u2).setCell ⟨w.heap.size, 3, none⟩ u3) := by
  have h0 : Below w.heap.size w w1 := ((Below.refl _ w).alloc (Nat.le_refl _) o).trans (hb.mono (by simp))
  exact (((h0.setCell (p := ⟨w.heap.size, 0, none⟩) (Nat.le_refl _) u0).setCell (p := ⟨w.heap.size, 1, none⟩) (Nat.le_refl _) u1).setCell (p := ⟨w.heap.size, 2, none⟩) (Nat.le_refl _) u2).setCell (p := ⟨w.heap.size, 3, none⟩) (Nat.le_refl _) u3
/-- What a call that tells a token by value leaves, laid open. -/
theorem first_laid {f : FuncId} {s : ByteArray} {x1 : Nat} {x2 : List UInt8} {x3 n : Nat} {W : World} (h : Calls Try.prog f #[.string s] W (FirstGot W ((x1, x2, x3), n))) :
    Calls Try.prog f #[.string s] W fun e w' => e = .returned (.tuple #[.agg #[.int .i64 (x1 : Int), .string (bytes x2), .int .i64 (x3 : Int), .int .i64 0], .int .i64 (n : Int)]) ∧ Below W.heap.size W w' := h.mono fun _ _ h => h

set_option maxHeartbeats 4000000 in
theorem landFirst (s : ByteArray) (c : UInt8) (r : List UInt8) (w : World) (hs : s.size ≤ maxLen) (hd : s.data.toList = c :: r) (hbl : blank c = false) :
    Calls Try.prog 23 #[.string s] w (FirstGot w (firstOf (piece c r))) := by
  rw [piece_first hbl]
  have hlen : s.data.toList.length = s.size := Array.length_toList
  have hp0 : 0 < s.size := by rw [← hlen, hd]; simp
  have hp0' : (0 : Int) < (s.size : Int) := by omega
  have hs0 : s[0] = c := by
    have := drop_get s 0 hp0
    rw [List.drop_zero, hd] at this
    exact (List.cons.inj this).1.symm
  have hL := fun W => landLetter c W
  have hDG := fun W => landDigit c W
  have hW := fun W => landFirstWord s W hs
  rw [hd] at hW
  rcases hsm : small c
  · rw [if_neg (by decide)]
    rw [hsm] at hL
    have HL := Lib.hid hL
    rcases hdg : digit c
    · rw [if_neg (by decide)]
      rw [hdg] at hDG
      have HDG := Lib.hid hDG
      have hS := fun W => landFirstSign s c r W hs hd
      obtain ⟨R, hR⟩ : ∃ R, (if arrowB c r then ((3, [45, 62], 0), 2) else if isSign c then ((3, [c], 0), 1) else ((0, [], 0), 0) : (Nat × List UInt8 × Nat) × Nat) = R := ⟨_, rfl⟩
      rw [hR] at hS ⊢
      obtain ⟨⟨x1, x2, x3⟩, n⟩ := R
      have HS := Lib.hid (fun W => first_laid (hS W))
      clear hL hDG hW hS hR hdg hsm hd hs hlen hbl
      go_enter Try.func23, Try.ntmps23
      go_wp2_with (first
        | (go_at_call 38; refine (HL.out _).mono ?_; rintro e w' ⟨rfl, rfl⟩)
        | (go_at_call 40; refine (HDG.out _).mono ?_; rintro e w' ⟨rfl, rfl⟩)
        | (go_at_call 42; refine (HS.out _).mono ?_; rintro e w1 ⟨rfl, hb⟩; obtain ⟨hc, hf⟩ := fcell hb; have hz : w.heap.size < w1.heap.size := by have := hb.size; simp at this; omega))
      refine bodyPost_ret (v := .tuple #[tokV (x1, x2, x3), .int .i64 n]) (by simp [results, Try.results23, go_sem, hc]; rfl) rfl ⟨rfl, below_four hb _ _ _ _⟩
    · rw [if_pos rfl]
      rw [hdg] at hDG
      have HDG := Lib.hid hDG
      have hS := fun W => landFirstNumber s c r W hs hd hdg
      obtain ⟨R, hR⟩ : ∃ R, (if 4 < run false (c :: r) ∨ (c.toNat = 48 ∧ 1 < run false (c :: r)) then ((0, [], 0), 0) else ((2, [], numOf ((c :: r).take (run false (c :: r)))), run false (c :: r)) : (Nat × List UInt8 × Nat) × Nat) = R := ⟨_, rfl⟩
      rw [hR] at hS ⊢
      obtain ⟨⟨x1, x2, x3⟩, n⟩ := R
      have HS := Lib.hid (fun W => first_laid (hS W))
      clear hL hDG hW hS hR hdg hsm hd hs hlen hbl
      go_enter Try.func23, Try.ntmps23
      go_wp2_with (first
        | (go_at_call 38; refine (HL.out _).mono ?_; rintro e w' ⟨rfl, rfl⟩)
        | (go_at_call 40; refine (HDG.out _).mono ?_; rintro e w' ⟨rfl, rfl⟩)
        | (go_at_call 41; refine (HS.out _).mono ?_; rintro e w1 ⟨rfl, hb⟩; obtain ⟨hc, hf⟩ := fcell hb; have hz : w.heap.size < w1.heap.size := by have := hb.size; simp at this; omega))
      refine bodyPost_ret (v := .tuple #[tokV (x1, x2, x3), .int .i64 n]) (by simp [results, Try.results23, go_sem, hc]; rfl) rfl ⟨rfl, below_four hb _ _ _ _⟩
  · rw [if_pos rfl]
    rw [hsm] at hL
    have HL := Lib.hid hL
    obtain ⟨R, hR⟩ : ∃ R, (if 16 < run true (c :: r) then ((0, [], 0), 0) else ((1, (c :: r).take (run true (c :: r)), 0), run true (c :: r)) : (Nat × List UInt8 × Nat) × Nat) = R := ⟨_, rfl⟩
    rw [hR] at hW ⊢
    obtain ⟨⟨x1, x2, x3⟩, n⟩ := R
    have HS := Lib.hid (fun W => first_laid (hW W))
    clear hL hDG hW hR hsm hd hs hlen hbl
    go_enter Try.func23, Try.ntmps23
    go_wp2_with (first
      | (go_at_call 38; refine (HL.out _).mono ?_; rintro e w' ⟨rfl, rfl⟩)
      | (go_at_call 39; refine (HS.out _).mono ?_; rintro e w1 ⟨rfl, hb⟩; obtain ⟨hc, hf⟩ := fcell hb; have hz : w.heap.size < w1.heap.size := by have := hb.size; simp at this; omega))
    refine bodyPost_ret (v := .tuple #[tokV (x1, x2, x3), .int .i64 n]) (by simp [results, Try.results23, go_sem, hc]; rfl) rfl ⟨rfl, below_four hb _ _ _ _⟩

set_option maxHeartbeats 1000000 in
theorem landSkip (s : ByteArray) (p : Nat) (w : World) (hp : p ≤ s.size) (hs : s.size ≤ maxLen) :
    Calls Try.prog 22 #[.string s, .int .i64 (p : Int)] w fun e w' => e = .returned (.int .i64 ((p + leadS blank (s.data.toList.drop p) : Nat) : Int)) ∧ w' = w := by
  have hm : s.size ≤ 9223372036854775807 := by have : maxLen = 9223372036854775807 := rfl; omega
  have hp' : (p : Int) ≤ (s.size : Int) := by omega
  obtain ⟨Y, hY⟩ : ∃ Y, s.extract p s.size = Y := ⟨_, rfl⟩
  have hYd : Y.data.toList = s.data.toList.drop p := by
    rw [← hY, extract_bytes s p (s.size - p) s.size (by omega)]
    show (s.data.toList.drop p).take (s.size - p) = _
    exact List.take_of_length_le (by rw [List.length_drop, Array.length_toList]; exact Nat.le_refl _)
  have hYs : Y.size ≤ maxLen := by
    have e : Y.size = Y.data.toList.length := Array.length_toList.symm
    rw [e, hYd, List.length_drop, Array.length_toList]
    have : s.data.size = s.size := rfl
    omega
  have hB := fun W => leadBlanks Y W hYs
  rw [hYd] at hB
  obtain ⟨k, hk⟩ : ∃ k, leadS blank (s.data.toList.drop p) = k := ⟨_, rfl⟩
  have hkl : p + k ≤ s.size := by
    have : k ≤ (s.data.toList.drop p).length := by rw [← hk]; exact (List.takeWhile_prefix _).length_le
    rw [List.length_drop, Array.length_toList] at this
    have : s.data.size = s.size := rfl
    omega
  rw [hk] at hB ⊢
  have HB := Lib.hid hB
  have hsum : (p : Int) + (k : Int) ≤ 9223372036854775807 := by omega
  clear hB hk hYd hYs hs
  go_enter Try.func22, Try.ntmps22
  go_wp2_with (go_at_call 36; refine (HB.out _).mono ?_; rintro e w' ⟨rfl, rfl⟩)
  go_ret
  exact ⟨by rw [Int.natCast_add]; rfl, rfl⟩
end Go.Proofs.Ytbehlceacgaebaa.Lex
