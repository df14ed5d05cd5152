/-
  The walk of the law SumPuts. By an AI agent.
-/
import Derived.Test.YtohofmngffnefaaSumWalks4
namespace Go.Proofs.Ytohofmngffnefaa.SumWalks
open Go.RowKit Go.Proofs.Ytohofmngffnefaa.SumMath Go.Proofs.Ytohofmngffnefaa.Ints

/-- What Right and its reference answer alike: bytes that read as ys, and q. -/
def Ans (w : World) (k : Nat) (ys : List Int) (q : Bool) (e : Ending) (w' : World) : Prop :=
  ∃ A c, e = .returned (.tuple #[.slice A k c, .bool q]) ∧ Rd .u8 w' A k ys ∧ Below w.heap.size w w'

theorem rights (A : Option Addr) (n c : Nat) (zs : List Int) (w0 : World) (hn : n ≤ c) (hc : c ≤ 140737488351232) (h0 : Rd .u8 w0 A n zs) :
    ∃ k ys q, (∀ w, Rd .u8 w A n zs → Calls Try.prog 13 #[.slice A n c] w (Ans w k ys q)) ∧
      (∀ w, Rd .u8 w A n zs → Calls Try.prog 14 #[.slice A n c] w (Ans w k ys q)) := by
  have hcm : c ≤ maxLen := by unfold maxLen; omega
  by_cases hn4 : n < 4
  · exact ⟨0, [], false, fun w _ => (rightShort A n c w hn4).mono fun e w' ⟨he, hb⟩ => ⟨none, 0, he, Rd.nil _ _ _, hb⟩,
      fun w _ => (refRightShort A n c w hn4).mono fun e w' ⟨he, hb⟩ => ⟨none, 0, he, Rd.nil _ _ _, hb⟩⟩
  · obtain ⟨b, off, rfl, _⟩ := h0.cell (by omega)
    obtain ⟨m, rfl⟩ : ∃ m, n = m + 4 := ⟨n - 4, by omega⟩
    obtain ⟨x0, x1, x2, x3, hx⟩ := four h0.len (by omega)
    rw [show m + 4 - 4 = m by omega] at hx
    have ht := h0.drop (m := m) (by omega)
    rw [hx, show m + 4 - m = 4 by omega] at ht
    have b1 := ht.u8 1 (by omega)
    have b2 := ht.u8 2 (by omega)
    have b3 := ht.u8 3 (by omega)
    simp at b1 b2 b3
    have hback := be4_back (x0 := x0) (s := adn 1 (zs.take m)) b1 b2 b3
    have hall : ∀ z ∈ zs.take m ++ be4 (adn 1 (zs.take m)), (Lit.int .u8 z).wf = true := fun z hz =>
      (List.mem_append.1 hz).elim ((h0.take (m := m) (by omega)).all z) (be4_wf (adn_bd 1 _) z)
    have hsame := str_same hall h0.all
    have hsplit : (zs.take m ++ be4 (adn 1 (zs.take m)) = zs) ↔ [x0, x1, x2, x3] = be4 (adn 1 (zs.take m)) := by
      constructor
      · intro h
        have h2 : zs.take m ++ be4 (adn 1 (zs.take m)) = zs.take m ++ zs.drop m := by rw [List.take_append_drop]; exact h
        rw [← hx]
        exact (List.append_cancel_left h2).symm
      · intro h
        rw [← h, ← hx, List.take_append_drop]
    by_cases hq : [x0, x1, x2, x3] = be4 (adn 1 (zs.take m))
    · have hr1 : (x0 * 16777216 + x1 * 65536 + x2 * 256 + x3 != adn 1 (zs.take m)) = false := by rw [bne_eq_false_iff_eq]; exact hback.2 hq
      have hr2 : ((strOfNums (zs.take m ++ be4 (adn 1 (zs.take m)))).toList == (strOfNums zs).toList) = !false := by rw [hsame]; simp [hsplit, hq]
      exact ⟨m, zs.take m, true, fun w hw => (rightLong b off m c zs x0 x1 x2 x3 w hn hcm (by omega) hw hx false hr1).mono fun e w' h => h,
        fun w hw => (refRightLong b off m c zs w hn (by omega) hw false hr2).mono fun e w' h => h⟩
    · have hr1 : (x0 * 16777216 + x1 * 65536 + x2 * 256 + x3 != adn 1 (zs.take m)) = true := by rw [bne_iff_ne]; exact fun h => hq (hback.1 h)
      have hr2 : ((strOfNums (zs.take m ++ be4 (adn 1 (zs.take m)))).toList == (strOfNums zs).toList) = !true := by rw [hsame]; simp [hsplit, hq]
      exact ⟨0, [], false, fun w hw => (rightLong b off m c zs x0 x1 x2 x3 w hn hcm (by omega) hw hx true hr1).mono fun e w' ⟨he, hb⟩ => ⟨none, 0, he, Rd.nil _ _ _, hb⟩,
        fun w hw => (refRightLong b off m c zs w hn (by omega) hw true hr2).mono fun e w' ⟨he, hb⟩ => ⟨none, 0, he, Rd.nil _ _ _, hb⟩⟩

theorem str_of {W : World} {A : Option Addr} {n c : Nat} {zs : List Int} (h : Rd .u8 W A n zs) : (convert 23 9 (.slice A n c)).run Try.prog W = .ok (.string (strOfNums zs)) W :=
  run_str _ _ _ Try.underlying23 Try.underlying5 Try.underlying9 h

set_option maxHeartbeats 4000000 in
theorem lawPuts (A : Option Addr) (n c : Nat) (zs : List Int) (w : World) (hn : n ≤ c) (hc : c ≤ 140737488351232) (h : Rd .u8 w A n zs) :
    Calls Try.prog 4 #[.slice A n c] w fun e w' => e = .returned (.bool true) ∧ Below w.heap.size w w' := by
  obtain ⟨k, ys, q, hr1, hr2⟩ := rights A n c zs w hn hc h
  have hp1 := fun W hW => sumPut A n c zs W hn (by unfold maxLen; omega) (by omega) hW
  have hp2 := fun W hW => refPut A n c zs W (by omega) hW
  have hall : ∀ z ∈ zs ++ be4 (adn 1 zs), (Lit.int .u8 z).wf = true := fun z hz => (List.mem_append.1 hz).elim (h.all z) (be4_wf (adn_bd 1 _) z)
  generalize zs ++ be4 (adn 1 zs) = ps at *
  have HR1 := Lib.hid hr1
  have HR2 := Lib.hid hr2
  have HP1 := Lib.hid hp1
  have HP2 := Lib.hid hp2
  clear hr1 hr2 hp1 hp2
  go_enter Try.func4, Try.ntmps4
  go_wp2_with fail
  refine (HR1.out _ h).mono ?_
  rintro e w1 ⟨A1, c1, rfl, ha1, hb1⟩
  go_wp2_with fail
  refine (HR2.out _ (h.below hb1)).mono ?_
  rintro e w2 ⟨A2, c2, rfl, ha2, hb2⟩
  have hB2 : Below w.heap.size w w2 := hb1.trans (hb2.mono hb1.size)
  have hA1 := (ha1.below hb2).drew
  have hA2 := ha2.drew
  have hA := (h.below hB2).drew
  have HB2 := Lib.hid hB2
  clear ha1 ha2 hb1 hb2 hB2 h
  go_wp2_with fail
  go_region_with (first
    | (go_at_call 15; refine (HP1.out _ hA).mono ?_; rintro e w3 ⟨v', rfl, hown3, hb3⟩; obtain ⟨A3, c3, rfl, _⟩ := own_slice hown3; have h3 := Rd.own hown3 hall; have e3 := str_of (c := c3) h3)
    | (go_at_call 16; refine (HP2.out _ (hA.below hb3)).mono ?_; rintro e w4 ⟨v', rfl, hown4, hb4⟩; obtain ⟨A4, c4, rfl, _⟩ := own_slice hown4; have e4 := str_of (c := c4) (Rd.own hown4 hall); have e5 := str_of (c := c3) (h3.below hb4); have e6 := str_of (c := c1) ((hA1.below hb3).below hb4); have e7 := str_of (c := c2) ((hA2.below hb3).below hb4))
    | (go_at_call 12; refine (awake _).mono ?_; rintro e w5 ⟨rfl, hb5⟩))
  all_goals
    clear e3 e4 e5 e6 e7
    go_wp2
    go_ret
    exact ⟨rfl, HB2.out.drew.trans ((hb3.trans ((hb4.mono hb3.size).trans (hb5.mono (Nat.le_trans hb3.size hb4.size)))).mono HB2.out.size)⟩
