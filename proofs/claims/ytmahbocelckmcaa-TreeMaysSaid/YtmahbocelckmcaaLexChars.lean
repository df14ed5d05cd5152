/-
  Texts, byte by byte: what the walks share. By an AI agent.
-/
import Derived.Test.YtmahbocelckmcaaChecked
import Derived.Test.YtmahbocelckmcaaLexRow
import Derived.Test.YtmahbocelckmcaaLexMath4
import Derived.WalkKit
import Derived.WalkSpells
import Derived.WalkLawsBesides
import Derived.Below
import Derived.Lib.Hide
import Derived.Lib.MinMax
import Derived.IntWalk
import Derived.OwnWalk
namespace Go.Proofs.Ytmahbocelckmcaa.Lex
open Go.RowKit

theorem run_yes {words : Bool} {c : UInt8} {r : List UInt8} (h : (if words then wordB else digit) c = true) : run words (c :: r) = run words r + 1 := by
  unfold run
  rw [List.takeWhile_cons_of_pos h]
  rfl
theorem run_no {words : Bool} {c : UInt8} {r : List UInt8} (h : (if words then wordB else digit) c = false) : run words (c :: r) = 0 := by
  unfold run
  rw [List.takeWhile_cons_of_neg (by rw [h]; decide)]
  rfl
theorem drop_get (s : ByteArray) (q : Nat) (h : q < s.size) : s.data.toList.drop q = s[q] :: s.data.toList.drop (q + 1) := by
  have hl : q < s.data.toList.length := by rw [Array.length_toList]; exact h
  rw [List.drop_eq_getElem_cons hl]
  rfl
theorem drop_end (s : ByteArray) (q : Nat) (h : s.size ≤ q) : s.data.toList.drop q = [] := List.drop_eq_nil_of_le (by rw [Array.length_toList]; exact h)
theorem add64 {p n q : Nat} (h : p + n = q) (hq : q ≤ 9223372036854775807) : IntKind.i64.wrap ((p : Int) + (n : Int)) = (q : Int) ∧ wrap64 ((p : Int) + (n : Int)) = (q : Int) := by
  subst h
  rw [← Int.natCast_add]
  exact ⟨IntWalk.i64_in _ (by omega), IntWalk.wrap64_in _ (by omega)⟩
theorem word_not {c : UInt8} (h1 : digit c = false) (h2 : small c = false) (h3 : (c.toNat : Int) ≠ 95) : wordB c = false := by
  simp only [wordB, h1, h2, Bool.false_or, decide_eq_false_iff_not]
  omega

theorem sign_at : ∀ (k : Nat) (h : k < 15), (({ data := #[40, 41, 91, 93, 123, 125, 44, 42, 46, 63, 43, 59, 33, 38, 124] } : ByteArray)[k]'h).toNat = signs.getD k 0 := by decide
theorem sign_step (c : UInt8) (k : Nat) (h : k < 15) : (signs.getD k 0 = c.toNat → isSign c = true) := fun he => by
  unfold isSign
  rw [decide_eq_true_iff, ← he, List.getD_eq_getElem?_getD, List.getElem?_eq_getElem (show k < signs.length from h)]
  exact List.getElem_mem _
theorem sign_none (c : UInt8) (h : ∀ j, j < 15 → signs.getD j 0 ≠ c.toNat) : isSign c = false := by
  unfold isSign
  rw [decide_eq_false_iff_not]
  intro hm
  obtain ⟨j, hj, he⟩ := List.mem_iff_getElem.1 hm
  refine h j hj ?_
  rw [List.getD_eq_getElem?_getD, List.getElem?_eq_getElem hj]
  exact he

theorem get_drop (s : ByteArray) (p k : Nat) (h : p + k < s.size) : (s.data.toList.drop p)[k]? = some s[p + k] := by
  rw [List.getElem?_drop, List.getElem?_eq_getElem (by rw [Array.length_toList]; exact h)]
  rfl
theorem extract_bytes (s : ByteArray) (p n q : Nat) (h : p + n = q) : s.extract p q = bytes ((s.data.toList.drop p).take n) := by
  obtain ⟨⟨l⟩⟩ := s
  rw [ByteArray.extract_mk]
  have e : q - p = n := by omega
  rw [e]
  rfl

theorem num_facts {x y d : Nat} (hx : x < 10 ^ 4) (hd : 48 ≤ d ∧ d ≤ 57) (hy : d - 48 = y) :
    IntKind.u8.wrap ((d : Int) - 48) = (y : Int) ∧ wrap64 (y : Int) = (y : Int) ∧ wrap64 (10 * (x : Int)) = 10 * (x : Int) ∧ wrap64 (10 * (x : Int) + (y : Int)) = 10 * (x : Int) + (y : Int) := by
  have h : x < 10000 := hx
  clear hx
  refine ⟨?_, IntWalk.wrap64_in _ (by omega), IntWalk.wrap64_in _ (by omega), IntWalk.wrap64_in _ (by omega)⟩
  rw [IntKind.wrap_u8]
  omega

theorem bytes_self (s : ByteArray) : bytes s.data.toList = s := by
  obtain ⟨⟨l⟩⟩ := s
  rfl

end Go.Proofs.Ytmahbocelckmcaa.Lex
