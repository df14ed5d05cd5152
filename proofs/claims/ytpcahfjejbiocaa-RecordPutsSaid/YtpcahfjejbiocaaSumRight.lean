/-
  Right, landed and by the reference, at any bytes: do they end by their sum? By an AI agent.
-/
import Derived.Test.YtpcahfjejbiocaaSumWalks4
namespace Go.Proofs.Ytpcahfjejbiocaa.SumWalks
open Go.RowKit Go.Proofs.Ytpcahfjejbiocaa.SumMath Go.Proofs.Ytpcahfjejbiocaa.Ints

/-- The bytes end by the sum of what is ahead of it. -/
def sealedB (zs : List Int) : Bool := decide (4 ≤ zs.length ∧ zs.drop (zs.length - 4) = be4 (adn 1 (zs.take (zs.length - 4))))
def openN (zs : List Int) : Nat := if sealedB zs then zs.length - 4 else 0
def openL (zs : List Int) : List Int := if sealedB zs then zs.take (zs.length - 4) else []
/-- What Right and its reference answer alike. -/
def AnsR (w : World) (zs : List Int) (e : Ending) (w' : World) : Prop :=
  ∃ A c, e = .returned (.tuple #[.slice A (openN zs) c, .bool (sealedB zs)]) ∧ Rd .u8 w' A (openN zs) (openL zs) ∧ openN zs ≤ c ∧ c ≤ maxLen ∧ Below w.heap.size w w'

theorem rights_both (A : Option Addr) (n c : Nat) (zs : List Int) (w0 : World) (hn : n ≤ c) (hcm : c ≤ maxLen) (hs : n ≤ 140737488351232) (h0 : Rd .u8 w0 A n zs) :
    (∀ w, Rd .u8 w A n zs → Calls Try.prog 26 #[.slice A n c] w (AnsR w zs)) ∧
      (∀ w, Rd .u8 w A n zs → Calls Try.prog 32 #[.slice A n c] w (AnsR w zs)) := by
  have hl := h0.len
  have q63 : maxLen = 9223372036854775807 := rfl
  by_cases hn4 : n < 4
  · have hse : sealedB zs = false := decide_eq_false (by omega)
    have no : ∀ w e w', (e = .returned (.tuple #[.slice none 0 0, .bool false]) ∧ Below w.heap.size w w') → AnsR w zs e w' := fun w e w' ⟨he, hb⟩ => by
      unfold AnsR openN openL
      rw [hse]
      exact ⟨none, 0, he, Rd.nil _ _ _, Nat.le_refl _, by decide, hb⟩
    exact ⟨fun w _ => (rightShort A n c w hn4).mono fun e w' h => no w e w' h, fun w _ => (refRightShort A n c w hn4).mono fun e w' h => no w e w' h⟩
  · obtain ⟨b, off, rfl, _⟩ := h0.cell (by omega)
    obtain ⟨m, rfl⟩ : ∃ m, n = m + 4 := ⟨n - 4, by omega⟩
    obtain ⟨x0, x1, x2, x3, hx⟩ := four h0.len (by omega)
    rw [show m + 4 - 4 = m by omega] at hx
    have ht := h0.drop (m := m) (by omega)
    rw [hx, show m + 4 - m = 4 by omega] at ht
    have b1 := ht.u8 1 (by omega)
    have b2 := ht.u8 2 (by omega)
    have b3 := ht.u8 3 (by omega)
    simp at b1 b2 b3
    have hback := be4_back (x0 := x0) (s := adn 1 (zs.take m)) b1 b2 b3
    have hall : ∀ z ∈ zs.take m ++ be4 (adn 1 (zs.take m)), (Lit.int .u8 z).wf = true := fun z hz =>
      (List.mem_append.1 hz).elim ((h0.take (m := m) (by omega)).all z) (be4_wf (adn_bd 1 _) z)
    have hsame := str_same hall h0.all
    have hsplit : (zs.take m ++ be4 (adn 1 (zs.take m)) = zs) ↔ [x0, x1, x2, x3] = be4 (adn 1 (zs.take m)) := by
      constructor
      · intro h
        have h2 : zs.take m ++ be4 (adn 1 (zs.take m)) = zs.take m ++ zs.drop m := by rw [List.take_append_drop]; exact h
        rw [← hx]
        exact (List.append_cancel_left h2).symm
      · intro h
        rw [← h, ← hx, List.take_append_drop]
    have hse : sealedB zs = decide ([x0, x1, x2, x3] = be4 (adn 1 (zs.take m))) := by
      unfold sealedB
      rw [hl, show m + 4 - 4 = m by omega, hx]
      apply decide_eq_decide.2
      exact ⟨fun h => h.2, fun h => ⟨by omega, h⟩⟩
    by_cases hq : [x0, x1, x2, x3] = be4 (adn 1 (zs.take m))
    · have hse2 : sealedB zs = true := by rw [hse]; exact decide_eq_true hq
      have yes : ∀ w e w', Opened w m (zs.take m) e w' → AnsR w zs e w' := fun w e w' ⟨A, c, he, hr, hc, hb⟩ => by
        unfold AnsR openN openL
        rw [hse2, hl]
        rw [if_pos rfl, if_pos rfl, show m + 4 - 4 = m by omega]
        exact ⟨A, c, he, hr, hc.1, hc.2, hb⟩
      have hr1 : (x0 * 16777216 + x1 * 65536 + x2 * 256 + x3 != adn 1 (zs.take m)) = false := by rw [bne_eq_false_iff_eq]; exact hback.2 hq
      have hr2 : ((strOfNums (zs.take m ++ be4 (adn 1 (zs.take m)))).toList == (strOfNums zs).toList) = !false := by rw [hsame]; simp [hsplit, hq]
      exact ⟨fun w hw => (rightLong b off m c zs x0 x1 x2 x3 w hn hcm (by omega) hw hx false hr1).mono fun e w' h => yes w e w' h,
        fun w hw => (refRightLong b off m c zs w hn hcm (by omega) hw false hr2).mono fun e w' h => yes w e w' h⟩
    · have hse2 : sealedB zs = false := by rw [hse]; exact decide_eq_false hq
      have no : ∀ w e w', (e = .returned (.tuple #[.slice none 0 0, .bool false]) ∧ Below w.heap.size w w') → AnsR w zs e w' := fun w e w' ⟨he, hb⟩ => by
        unfold AnsR openN openL
        rw [hse2]
        exact ⟨none, 0, he, Rd.nil _ _ _, Nat.le_refl _, by decide, hb⟩
      have hr1 : (x0 * 16777216 + x1 * 65536 + x2 * 256 + x3 != adn 1 (zs.take m)) = true := by rw [bne_iff_ne]; exact fun h => hq (hback.1 h)
      have hr2 : ((strOfNums (zs.take m ++ be4 (adn 1 (zs.take m)))).toList == (strOfNums zs).toList) = !true := by rw [hsame]; simp [hsplit, hq]
      exact ⟨fun w hw => (rightLong b off m c zs x0 x1 x2 x3 w hn hcm (by omega) hw hx true hr1).mono fun e w' h => no w e w' h,
        fun w hw => (refRightLong b off m c zs w hn hcm (by omega) hw true hr2).mono fun e w' h => no w e w' h⟩
end Go.Proofs.Ytpcahfjejbiocaa.SumWalks
