/-
  The walks of the landed lex's first and skip. By an AI agent.
  The walk of the landed lex's Lex. By an AI agent.
  What the landed Lex leaves. By an AI agent.
-/
import Derived.Test.YthcbgneoonekkaaGreatDoorGShowBack33
import Derived.Outline
namespace Go.Proofs.YthcbgneoonekkaaGreatDoor.Lex
open Go.RowKit

theorem fcell {W w1 : World} (hb : Below W.heap.size W w1) : (∀ b o, b < W.heap.size → w1.cell? ⟨b, o, none⟩ = W.cell? ⟨b, o, none⟩) ∧ (∀ b o, b < W.heap.size → w1.frozen? ⟨b, o, none⟩ = W.frozen? ⟨b, o, none⟩) :=
  ⟨fun b o h => hb.cell (p := ⟨b, o, none⟩) h, fun b o h => hb.frozen (p := ⟨b, o, none⟩) h⟩

theorem piece_first {c : UInt8} {r : List UInt8} (hb : blank c = false) : firstOf (piece c r) =
    if small c = true then (if 16 < run true (c :: r) then ((0, [], 0), 0) else ((1, (c :: r).take (run true (c :: r)), 0), run true (c :: r)))
    else if digit c = true then (if 4 < run false (c :: r) ∨ (c.toNat = 48 ∧ 1 < run false (c :: r)) then ((0, [], 0), 0) else ((2, [], numOf ((c :: r).take (run false (c :: r)))), run false (c :: r)))
    else (if arrowB c r then ((3, [45, 62], 0), 2) else if isSign c then ((3, [c], 0), 1) else ((0, [], 0), 0)) := by
  unfold piece
  rw [if_neg (by rw [hb]; decide)]
  by_cases h2 : small c = true
  · rw [if_pos h2, if_pos h2]
    by_cases h : 16 < run true (c :: r)
    · rw [if_pos h, if_pos h]; rfl
    · rw [if_neg h, if_neg h]; rfl
  · rw [if_neg h2, if_neg h2]
    by_cases h3 : digit c = true
    · rw [if_pos h3, if_pos h3]
      by_cases h : 4 < run false (c :: r) ∨ (c.toNat = 48 ∧ 1 < run false (c :: r))
      · rw [if_pos h, if_pos h]; rfl
      · rw [if_neg h, if_neg h]; rfl
    · rw [if_neg h3, if_neg h3]
      by_cases h : c.toNat = 45 ∧ r.head?.map (·.toNat) = some 62
      · rw [if_pos h, if_pos (show arrowB c r = true from decide_eq_true h)]; rfl
      · rw [if_neg h, if_neg (show ¬ arrowB c r = true by unfold arrowB; rw [decide_eq_false h]; decide)]
        by_cases h5 : isSign c = true
        · rw [if_pos h5, if_pos h5]; rfl
        · rw [if_neg h5, if_neg h5]; rfl

theorem below_four {w w1 : World} {o : Obj} (hb : Below (w.alloc o).heap.size (w.alloc o) w1) (u0 u1 u2 u3 : Value) :
    Below w.heap.size w ((((w1.setCell ⟨w.heap.size, 0, none⟩ u0).setCell ⟨w.heap.size, 1, none⟩ u1).setCell ⟨w.heap.size, 2, none⟩ u2).setCell ⟨w.heap.size, 3, none⟩ u3) := by
  have h0 : Below w.heap.size w w1 := ((Below.refl _ w).alloc (Nat.le_refl _) o).trans (hb.mono (by simp))
  exact (((h0.setCell (p := ⟨w.heap.size, 0, none⟩) (Nat.le_refl _) u0).setCell (p := ⟨w.heap.size, 1, none⟩) (Nat.le_refl _) u1).setCell (p := ⟨w.heap.size, 2, none⟩) (Nat.le_refl _) u2).setCell (p := ⟨w.heap.size, 3, none⟩) (Nat.le_refl _) u3
/-- What a call that tells a token by value leaves, laid open. -/
theorem first_laid {f : FuncId} {s : ByteArray} {x1 : Nat} {x2 : List UInt8} {x3 n : Nat} {W : World} (h : Calls Tryz.prog f #[.string s] W (FirstGot W ((x1, x2, x3), n))) :
    Calls Tryz.prog f #[.string s] W fun e w' => e = .returned (.tuple #[.agg #[.int .i64 (x1 : Int), .string (bytes x2), .int .i64 (x3 : Int), .int .i64 0], .int .i64 (n : Int)]) ∧ Below W.heap.size W w' := h.mono fun _ _ h => h

set_option maxHeartbeats 4000000 in
theorem landFirst (s : ByteArray) (c : UInt8) (r : List UInt8) (w : World) (hs : s.size ≤ maxLen) (hd : s.data.toList = c :: r) (hbl : blank c = false) :
    Calls Tryz.prog 40 #[.string s] w (FirstGot w (firstOf (piece c r))) := by
  rw [piece_first hbl]
  have hlen : s.data.toList.length = s.size := Array.length_toList
  have hp0 : 0 < s.size := by rw [← hlen, hd]; simp
  have hp0' : (0 : Int) < (s.size : Int) := by omega
  have hs0 : s[0] = c := by
    have := drop_get s 0 hp0
    rw [List.drop_zero, hd] at this
    exact (List.cons.inj this).1.symm
  have hL := fun W => landLetter c W
  have hDG := fun W => landDigit c W
  have hW := fun W => landFirstWord s W hs
  rw [hd] at hW
  rcases hsm : small c
  · rw [if_neg (by decide)]
    rw [hsm] at hL
    have HL := Lib.hid hL
    rcases hdg : digit c
    · rw [if_neg (by decide)]
      rw [hdg] at hDG
      have HDG := Lib.hid hDG
      have hS := fun W => landFirstSign s c r W hs hd
      obtain ⟨R, hR⟩ : ∃ R, (if arrowB c r then ((3, [45, 62], 0), 2) else if isSign c then ((3, [c], 0), 1) else ((0, [], 0), 0) : (Nat × List UInt8 × Nat) × Nat) = R := ⟨_, rfl⟩
      rw [hR] at hS ⊢
      obtain ⟨⟨x1, x2, x3⟩, n⟩ := R
      have HS := Lib.hid (fun W => first_laid (hS W))
      clear hL hDG hW hS hR hdg hsm hd hs hlen hbl
      go_enter Tryz.func40, Tryz.ntmps40
      go_wp2_with (first
        | (go_at_call 55; refine (HL.out _).mono ?_; rintro e w' ⟨rfl, rfl⟩)
        | (go_at_call 57; refine (HDG.out _).mono ?_; rintro e w' ⟨rfl, rfl⟩)
        | (go_at_call 59; refine (HS.out _).mono ?_; rintro e w1 ⟨rfl, hb⟩; obtain ⟨hc, hf⟩ := fcell hb; have hz : w.heap.size < w1.heap.size := by have := hb.size; simp at this; omega))
      refine bodyPost_ret (v := .tuple #[tokV (x1, x2, x3), .int .i64 n]) (by simp [results, Tryz.results40, go_sem, hc]; rfl) rfl ⟨rfl, below_four hb _ _ _ _⟩
    · rw [if_pos rfl]
      rw [hdg] at hDG
      have HDG := Lib.hid hDG
      have hS := fun W => landFirstNumber s c r W hs hd hdg
      obtain ⟨R, hR⟩ : ∃ R, (if 4 < run false (c :: r) ∨ (c.toNat = 48 ∧ 1 < run false (c :: r)) then ((0, [], 0), 0) else ((2, [], numOf ((c :: r).take (run false (c :: r)))), run false (c :: r)) : (Nat × List UInt8 × Nat) × Nat) = R := ⟨_, rfl⟩
      rw [hR] at hS ⊢
      obtain ⟨⟨x1, x2, x3⟩, n⟩ := R
      have HS := Lib.hid (fun W => first_laid (hS W))
      clear hL hDG hW hS hR hdg hsm hd hs hlen hbl
      go_enter Tryz.func40, Tryz.ntmps40
      go_wp2_with (first
        | (go_at_call 55; refine (HL.out _).mono ?_; rintro e w' ⟨rfl, rfl⟩)
        | (go_at_call 57; refine (HDG.out _).mono ?_; rintro e w' ⟨rfl, rfl⟩)
        | (go_at_call 58; refine (HS.out _).mono ?_; rintro e w1 ⟨rfl, hb⟩; obtain ⟨hc, hf⟩ := fcell hb; have hz : w.heap.size < w1.heap.size := by have := hb.size; simp at this; omega))
      refine bodyPost_ret (v := .tuple #[tokV (x1, x2, x3), .int .i64 n]) (by simp [results, Tryz.results40, go_sem, hc]; rfl) rfl ⟨rfl, below_four hb _ _ _ _⟩
  · rw [if_pos rfl]
    rw [hsm] at hL
    have HL := Lib.hid hL
    obtain ⟨R, hR⟩ : ∃ R, (if 16 < run true (c :: r) then ((0, [], 0), 0) else ((1, (c :: r).take (run true (c :: r)), 0), run true (c :: r)) : (Nat × List UInt8 × Nat) × Nat) = R := ⟨_, rfl⟩
    rw [hR] at hW ⊢
    obtain ⟨⟨x1, x2, x3⟩, n⟩ := R
    have HS := Lib.hid (fun W => first_laid (hW W))
    clear hL hDG hW hR hsm hd hs hlen hbl
    go_enter Tryz.func40, Tryz.ntmps40
    go_wp2_with (first
      | (go_at_call 55; refine (HL.out _).mono ?_; rintro e w' ⟨rfl, rfl⟩)
      | (go_at_call 56; refine (HS.out _).mono ?_; rintro e w1 ⟨rfl, hb⟩; obtain ⟨hc, hf⟩ := fcell hb; have hz : w.heap.size < w1.heap.size := by have := hb.size; simp at this; omega))
    refine bodyPost_ret (v := .tuple #[tokV (x1, x2, x3), .int .i64 n]) (by simp [results, Tryz.results40, go_sem, hc]; rfl) rfl ⟨rfl, below_four hb _ _ _ _⟩

set_option maxHeartbeats 1000000 in
theorem landSkip (s : ByteArray) (p : Nat) (w : World) (hp : p ≤ s.size) (hs : s.size ≤ maxLen) :
    Calls Tryz.prog 39 #[.string s, .int .i64 (p : Int)] w fun e w' => e = .returned (.int .i64 ((p + leadS blank (s.data.toList.drop p) : Nat) : Int)) ∧ w' = w := by
  have hm : s.size ≤ 9223372036854775807 := by have : maxLen = 9223372036854775807 := rfl; omega
  have hp' : (p : Int) ≤ (s.size : Int) := by omega
  obtain ⟨Y, hY⟩ : ∃ Y, s.extract p s.size = Y := ⟨_, rfl⟩
  have hYd : Y.data.toList = s.data.toList.drop p := by
    rw [← hY, extract_bytes s p (s.size - p) s.size (by omega)]
    show (s.data.toList.drop p).take (s.size - p) = _
    exact List.take_of_length_le (by rw [List.length_drop, Array.length_toList]; exact Nat.le_refl _)
  have hYs : Y.size ≤ maxLen := by
    have e : Y.size = Y.data.toList.length := Array.length_toList.symm
    rw [e, hYd, List.length_drop, Array.length_toList]
    have : s.data.size = s.size := rfl
    omega
  have hB := fun W => leadBlanks Y W hYs
  rw [hYd] at hB
  obtain ⟨k, hk⟩ : ∃ k, leadS blank (s.data.toList.drop p) = k := ⟨_, rfl⟩
  have hkl : p + k ≤ s.size := by
    have : k ≤ (s.data.toList.drop p).length := by rw [← hk]; exact (List.takeWhile_prefix _).length_le
    rw [List.length_drop, Array.length_toList] at this
    have : s.data.size = s.size := rfl
    omega
  rw [hk] at hB ⊢
  have HB := Lib.hid hB
  have hsum : (p : Int) + (k : Int) ≤ 9223372036854775807 := by omega
  clear hB hk hYd hYs hs
  go_enter Tryz.func39, Tryz.ntmps39
  go_wp2_with (go_at_call 53; refine (HB.out _).mono ?_; rintro e w' ⟨rfl, rfl⟩)
  go_ret
  exact ⟨by rw [Int.natCast_add]; rfl, rfl⟩
end Go.Proofs.YthcbgneoonekkaaGreatDoor.Lex

namespace Go.Proofs.YthcbgneoonekkaaGreatDoor.Lex
open Go.RowKit

theorem own_below {w w' : World} {base : Nat} {e : TypeId} {size : Nat} {v : Value} {n : Nat} {xs : List Value} (h : w.ownsRow base e size v n xs) (hb : Below w.heap.size w w') : w'.ownsRow base e size v n xs :=
  h.kept (row := none) ⟨hb.os, hb.tape, hb.output, hb.size, fun i hi _ => hb.block i hi⟩ (by cases v.ownBlock <;> simp)

set_option maxHeartbeats 1000000 in
theorem landClone (s : ByteArray) (w : World) (hs : s.size ≤ 2000) :
    Calls Tryz.prog 38 #[.string s] w fun e w' => e = .returned (.string s) ∧ Below w.heap.size w w' := by
  have HC := Lib.hid (fun W => Tryz.stringslite_Clone s W (by omega))
  clear hs
  go_enter Tryz.func38, Tryz.ntmps38
  go_wp2_with (go_at_call 52; refine (HC.out _).mono ?_; rintro e w' ⟨rfl, hb⟩)
  go_ret
  exact ⟨rfl, hb⟩

theorem skip_blanks : ∀ (L : List UInt8) (p : Nat), lexAt p L = lexAt (p + leadS blank L) (L.drop (leadS blank L))
  | [], p => by rfl
  | c :: r, p => by
    rcases hb : blank c
    · rw [lead_no hb, Nat.add_zero, List.drop_zero]
    · rw [lead_yes hb, lexAt_go p (piece_blank r hb)]
      have ih := skip_blanks r (p + 1)
      show (lexAt (p + 1) r).before [] = lexAt (p + (leadS blank r + 1)) (r.drop (leadS blank r))
      rw [before_nil, ih]
      congr 1
      omega
theorem lead_first {p : UInt8 → Bool} : ∀ (L : List UInt8) {c : UInt8} {r : List UInt8}, L.drop (leadS p L) = c :: r → p c = false
  | [], c, r, h => by cases h
  | x :: l, c, r, h => by
    rcases hx : p x
    · rw [lead_no hx, List.drop_zero] at h
      rw [← (List.cons.inj h).1]; exact hx
    · rw [lead_yes hx, List.drop_succ_cons] at h
      exact lead_first l h
theorem lead_drop (L : List UInt8) (p : Nat) {c : UInt8} {r : List UInt8} (h : L.drop (p + leadS blank (L.drop p)) = c :: r) : blank c = false := by
  rw [← List.drop_drop] at h
  exact lead_first _ h
theorem lead_le (L : List UInt8) (p : Nat) (h : p ≤ L.length) : p + leadS blank (L.drop p) ≤ L.length := by
  have : leadS blank (L.drop p) ≤ (L.drop p).length := (List.takeWhile_prefix _).length_le
  rw [List.length_drop] at this
  omega
theorem lead_rel {L : List UInt8} {R : Res} {acc : List Tk} {p : Nat} (h : R = (lexAt p (L.drop p)).before acc) : R = (lexAt (p + leadS blank (L.drop p)) (L.drop (p + leadS blank (L.drop p)))).before acc := by
  rw [h, skip_blanks (L.drop p) p, List.drop_drop]
theorem piece_tok {c : UInt8} {r : List UInt8} {n : Nat} (hb : blank c = false) (h : piece c r = some (n, none)) : False := by
  unfold piece at h
  rw [if_neg (by rw [hb]; decide)] at h
  split at h
  · split at h <;> cases h
  · split at h
    · split at h <;> cases h
    · split at h
      · cases h
      · split at h <;> cases h

/-- wpList_append_tok behind one block more: where the new token's block lies is said by a number. -/
theorem wpList_append_tok2 {P : Program} {w : World} {ops : Array Oper} {rest : List Oper} {o : Oper} {a : Act} {Q : Exit → Act → World → Prop} (hgd : o.guard = none) (s x : Operand) (t : TypeId)
    (ho : o.op = .call { callee := .builtin .append, args := #[s, x], argTypes := #[t, t] }) (base : Nat) (e : TypeId) (i : TypeInfo) (z : Value) (nb : Nat)
    (ht : P.underlying t = some (.slice e)) (hi : P.info? e = some i) (hz : i.zero = some z) (hsize : i.size = 4) (hby : i.bytes = nb) (hzs : z.cells.size = 4)
    (v : Value) (l : List Tk) (hs : a.eval s = v) (o1 : Obj) (hown : w.ownsRow base e 4 v l.length (rowTk l))
    (tk : Tk) (T : TypeId) (cs : Array Value) (hcs : cs = (cellsTk tk).toArray) (hx : a.eval x = .slice (some ⟨w.heap.size + 1, 0, none⟩) 1 1)
    (hl : l.length ≤ 2000) (hb : nb ≤ 1000) (hbase : base ≤ w.heap.size)
    (h : ∀ v' w', w'.ownsRow base e 4 v' (l ++ [tk]).length (rowTk (l ++ [tk])) → ((w.alloc o1).alloc (.cells cs T)).grownBy w' v.ownBlock → wpList P ops Q rest (a.put o.dst v') w') : wpList P ops Q (o :: rest) a ((w.alloc o1).alloc (.cells cs T)) :=
  wpList_append_tok hgd s x t ho base e i z nb ht hi hz hsize hby hzs v l hs (hown.alloc _) tk T cs hcs (by rw [hx]; simp) hl hb (by simp; omega) h

theorem le_alloc {a : Nat} {w : World} {o : Obj} (h : a ≤ w.heap.size) : a ≤ (w.alloc o).heap.size := by simp; omega

set_option maxHeartbeats 8000000 in
set_option maxRecDepth 100000 in
theorem landLex (s : ByteArray) (w : World) (hs : s.size ≤ maxLen) :
    Calls Tryz.prog 24 #[.string s] w (LexPost w s.data.toList) := by
  obtain ⟨i0, hi, hz0, hz1, hz2⟩ := info_parts infoTok
  have hlen : s.data.toList.length = s.size := Array.length_toList
  by_cases hbig : 2000 < s.size
  · have hbig' : (2000 : Int) < (s.size : Int) := by omega
    have HP := Lib.hid (post_many (w := w) (L := s.data.toList) (by omega))
    clear hlen hbig
    go_enter Tryz.func24, Tryz.ntmps24
    go_wp2
    go_ret3
    exact HP.out
  · have HL := Lib.hid (show ¬ 2000 < s.data.toList.length by omega)
    have hbig' : (s.size : Int) ≤ 2000 := by omega
    have HZ := Lib.hid (show s.size ≤ 2000 by omega)
    have HSM := Lib.hid hs
    have HLEN := Lib.hid hlen
    obtain ⟨R, hR⟩ : ∃ R, lexAt 0 s.data.toList = R := ⟨_, rfl⟩
    have HR0 := Lib.hid hR
    have HCL := Lib.hid (fun W => landClone s W HZ.out)
    have hsk := fun W => landSkip s 0 W (Nat.zero_le _) hs
    have hR1 : R = (lexAt (0 + leadS blank (s.data.toList.drop 0)) (s.data.toList.drop (0 + leadS blank (s.data.toList.drop 0)))).before [] := lead_rel (by rw [before_nil, List.drop_zero, hR])
    have hb1 : ∀ c r, s.data.toList.drop (0 + leadS blank (s.data.toList.drop 0)) = c :: r → blank c = false := fun c r h => lead_drop _ 0 h
    have hl1 := lead_le s.data.toList 0 (Nat.zero_le _)
    obtain ⟨q, hq⟩ : ∃ q, 0 + leadS blank (s.data.toList.drop 0) = q := ⟨_, rfl⟩
    rw [hq] at hR1 hb1 hsk hl1
    rw [hlen] at hl1
    have HR := Lib.hid hR1
    have HB1 := Lib.hid hb1
    have HSK := Lib.hid hsk
    clear hlen hbig hs hR hsk hq hR1 hb1
    go_enter Tryz.func24, Tryz.ntmps24
    go_wp2_with (first
      | (go_at_call 38; refine (HCL.out _).mono ?_; rintro e w1 ⟨rfl, hB0⟩)
      | (go_at_call 39; refine (HSK.out _).mono ?_; rintro e w' ⟨rfl, rfl⟩))
    go_loopw [6, 7] (fun v i wr => ∃ (p : Nat) (acc : List Tk), p ≤ s.size ∧ acc.length ≤ p ∧ i = .int .i64 p ∧ wr.ownsRow w.heap.size 75 4 v acc.length (rowTk acc) ∧ Below w.heap.size w wr ∧ Hid (R = (lexAt p (s.data.toList.drop p)).before acc) ∧ Hid (∀ c r, s.data.toList.drop p = c :: r → blank c = false)) (fun _ i _ => s.size - (intOf i).toNat)
    case atStart => exact ⟨q, [], hl1, Nat.zero_le _, rfl, World.ownsRow_made w1 #[] 0 hB0.size (by decide) rfl, hB0.alloc hB0.size _, HR, HB1⟩
    case round =>
      obtain ⟨p, acc, hp, hacc, rfl, hown, hB, HN, HBL⟩ := hrel
      have HO := Lib.hid hown
      have HB := Lib.hid hB
      clear hown hB
      by_cases hlt : p < s.size
      · have hlt' : (p : Int) < (s.size : Int) := by omega
        have hp' : (p : Int) ≤ (s.size : Int) := by omega
        have hd := drop_get s p hlt
        obtain ⟨c, hc⟩ : ∃ c, s[p] = c := ⟨_, rfl⟩
        rw [hc] at hd
        obtain ⟨r, hr⟩ : ∃ r, s.data.toList.drop (p + 1) = r := ⟨_, rfl⟩
        rw [hr] at hd
        have hbl := HBL.out c r hd
        obtain ⟨Y, hY⟩ : ∃ Y, s.extract p s.size = Y := ⟨_, rfl⟩
        have hYd : Y.data.toList = c :: r := by
          rw [← hY, extract_bytes s p (s.size - p) s.size (by omega), ← hd]
          show (s.data.toList.drop p).take (s.size - p) = _
          exact List.take_of_length_le (by rw [List.length_drop, Array.length_toList]; exact Nat.le_refl _)
        have hYs : Y.size ≤ maxLen := by
          have e : Y.size = Y.data.toList.length := Array.length_toList.symm
          rw [e, hYd, ← hd, List.length_drop, Array.length_toList]
          have := HSM.out
          have : s.data.size = s.size := rfl
          omega
        have hF := fun W => landFirst Y c r W hYs hYd hbl
        have hcr : (c :: r).length = s.size - p := by rw [← hd, List.length_drop, HLEN.out]
        rcases hpc : piece c r with _ | ⟨n, t⟩
        · have HN2 := Lib.hid (lex_stop hd HN.out hpc)
          rw [hpc] at hF
          have HF := Lib.hid (fun W => first_laid (hF W))
          clear hF hpc hd hr hc hYd hYs hbl HN HBL hcr
          go_wp2_with (go_at_call 40; refine (HF.out _).mono ?_; rintro e w2 ⟨rfl, hb2⟩)
          go_ret3
          exact post_bad HL.out (HR0.out.trans HN2.out) ((HB.out.trans (hb2.mono HB.out.size)).alloc (Nat.le_trans HB.out.size hb2.size) _)
        · rcases t with _ | ⟨k, tx, v⟩
          · exact (piece_tok hbl hpc).elim
          · rw [hpc] at hF
            have HF := Lib.hid (fun W => first_laid (hF W))
            obtain ⟨hn1, hn2⟩ := piece_pos hpc
            have hn3 : p + n ≤ s.size := by simp only [List.length_cons] at hcr; omega
            have hN2 : R = (lexAt (p + n) (s.data.toList.drop (p + n))).before (acc ++ [⟨k, tx, v, p⟩]) := lex_step hd HN.out hpc
            have hN3 := lead_rel hN2
            have hb3 : ∀ c r, s.data.toList.drop ((p + n) + leadS blank (s.data.toList.drop (p + n))) = c :: r → blank c = false := fun c r h => lead_drop _ (p + n) h
            have hl3 := lead_le s.data.toList (p + n) (by rw [HLEN.out]; exact hn3)
            have hsk := fun W => landSkip s (p + n) W hn3 HSM.out
            obtain ⟨q2, hq2⟩ : ∃ q2, (p + n) + leadS blank (s.data.toList.drop (p + n)) = q2 := ⟨_, rfl⟩
            have hpq : p + n ≤ q2 := by omega
            rw [hq2] at hN3 hb3 hsk hl3
            rw [HLEN.out] at hl3
            have HN3 := Lib.hid hN3
            have HB3 := Lib.hid hb3
            obtain ⟨m, hm⟩ : ∃ m, p + n = m := ⟨_, rfl⟩
            rw [hm] at hsk hpq
            have HSK3 := Lib.hid hsk
            have HACC := Lib.hid (show acc.length ≤ 2000 by have := HZ.out; omega)
            have HAQ := Lib.hid (show (acc ++ [(⟨k, tx, v, p⟩ : Tk)]).length ≤ q2 by rw [List.length_append, List.length_singleton]; omega)
            have hn0 : ((n : Int) == 0) = false := by simp only [beq_eq_false_iff_ne]; omega
            have HPQ := Lib.hid (show p < q2 by omega)
            have HLQ := Lib.hid hl3
            have hsum : (p : Int) + (n : Int) ≤ 9223372036854775807 := by have := HZ.out; omega
            have hm64 : m ≤ 9223372036854775807 := by have := HZ.out; omega
            have e3 := add64 hm hm64
            clear hF hpc hd hr hc hYd hYs hbl HN HBL hcr hN2 hN3 hb3 hsk hq2 hm hn1 hn2 hn3 hm64 hpq hl3
            go_wp2_with (first
              | (go_at_call 40; refine (HF.out _).mono ?_; rintro e w2 ⟨rfl, hb2⟩)
              | (go_at_call 39; refine (HSK3.out _).mono ?_; rintro e w' ⟨rfl, rfl⟩)
              | (at_builtin; refine wpList_append_tok2 rfl _ _ 64 rfl w.heap.size 75 i0 _ 40 Tryz.underlying64 hi hz0 hz1 hz2 rfl _ acc rfl _ (own_below HO.out hb2) ⟨k, tx, v, p⟩ _ _ rfl rfl HACC.out (by decide) (Nat.le_trans HB.out.size hb2.size) ?_; intro v3 w3 hown3 hgr3))
            go_roundw
            case rel => exact ⟨q2, acc ++ [⟨k, tx, v, p⟩], HLQ.out, HAQ.out, rfl, hown3, (((HB.out.trans (hb2.mono HB.out.size)).alloc (Nat.le_trans HB.out.size hb2.size) _).alloc (le_alloc (Nat.le_trans HB.out.size hb2.size)) _).grown hgr3 (le_alloc (le_alloc (Nat.le_trans HB.out.size hb2.size))) (fun k hk => (HO.out.lt k hk).1), HN3, HB3⟩
            case measure => have := HPQ.out; have := HLQ.out; clear e3; simp [intOf]; omega
      · have hge : decide ((p : Int) < (s.size : Int)) = false := by simp; omega
        have e : p = s.size := by omega
        have HN2 := Lib.hid (lex_end (drop_end s p (by omega)) HN.out)
        have HACC := Lib.hid (show acc.length ≤ 2000 by have := HZ.out; omega)
        clear HN HBL
        subst e
        go_wp2_with (at_builtin; refine wpList_append_tok rfl _ _ 64 rfl w.heap.size 75 i0 _ 40 Tryz.underlying64 hi hz0 hz1 hz2 rfl _ acc rfl HO.out ⟨0, [], 0, s.size⟩ _ _ rfl rfl HACC.out (by decide) HB.out.size ?_; intro v3 w3 hown3 hgr3)
        go_ret3
        exact post_ok HL.out (HR0.out.trans HN2.out) hown3 ((HB.out.alloc HB.out.size _).grown hgr3 (by have := HB.out.size; simp; omega) (fun k hk => (HO.out.lt k hk).1))
end Go.Proofs.YthcbgneoonekkaaGreatDoor.Lex

namespace Go.Proofs.YthcbgneoonekkaaGreatDoor.Lex
open Go.RowKit

theorem progLex (s : ByteArray) (w : World) (hs : s.size ≤ maxLen) : Calls Tryz.prog 24 #[.string s] w (LexGot w (lexS s.data.toList)) :=
  (landLex s w hs).mono fun _ _ h => h.got

end Go.Proofs.YthcbgneoonekkaaGreatDoor.Lex
