/-
  slices.Equal of two rows of tokens. By an AI agent.
-/
import Derived.Test.YthadjopkfglecaaLexTk
namespace Go.Proofs.Ythadjopkfglecaa.Lex
open Go.RowKit

theorem tk_ext {l m : List Tk} (hl : l.length = m.length) (h : ∀ j : Nat, j < l.length → l[j]? = m[j]?) : l = m := by
  apply List.ext_getElem? 
  intro j
  by_cases hj : j < l.length
  · exact h j hj
  · rw [List.getElem?_eq_none (by omega), List.getElem?_eq_none (by omega)]

set_option maxHeartbeats 2000000 in
theorem equalTok (v1 v2 : Value) (l m : List Tk) (w : World) (hl : l.length ≤ 4000) (_hm : m.length ≤ 4000) (h1 : Toks w v1 l) (h2 : Toks w v2 m) :
    Calls Try.prog 9 #[v1, v2] w fun e w' => e = .returned (.bool (decide (l = m))) ∧ ∃ q, w' = w.drewN q := by
  obtain ⟨A1, c1, rfl, -, g1⟩ := h1
  obtain ⟨A2, c2, rfl, -, g2⟩ := h2
  have HL := Lib.hid hl
  clear hl
  by_cases hnm : l.length = m.length
  · obtain ⟨n, hn⟩ : ∃ n, l.length = n := ⟨_, rfl⟩
    rw [← hnm, hn] at g2 ⊢
    rw [hn] at g1 HL
    have HN := Lib.hid hn
    have HNM := Lib.hid hnm
    have hn4 : (n : Int) ≤ 4000 := by have := HL.out; omega
    clear hn hnm HL
    have hm := guardTok
    have HC := Lib.hid tk_neq
    go_enter Try.func9, Try.ntmps9
    go_wp2
    go_loopw [13] (fun i wr => ∃ k q : Nat, k ≤ n ∧ i = .int .i64 k ∧ Hid (∀ j : Nat, j < k → l[j]? = m[j]?) ∧ wr = w.drewN q) (fun i _ => n - (intOf i).toNat)
    case atStart => exact ⟨0, 0, Nat.zero_le _, rfl, fun j hj => absurd hj (by omega), rfl⟩
    case round =>
      obtain ⟨k, q, hk, rfl, HZ, rfl⟩ := hrel
      by_cases h0 : k < n
      · have hk0 : (k : Int) < (n : Int) := by omega
        obtain ⟨b1, rfl, k1⟩ := g1 (by omega)
        obtain ⟨b2, rfl, k2⟩ := g2 (by omega)
        have hl1 : k < l.length := by have := HN.out; omega
        have hl2 : k < m.length := by have := HNM.out; omega
        have x1 := List.getElem?_eq_getElem hl1
        have x2 := List.getElem?_eq_getElem hl2
        obtain ⟨t1, y1⟩ : ∃ t, l[k] = t := ⟨_, rfl⟩
        obtain ⟨t2, y2⟩ : ∃ t, m[k] = t := ⟨_, rfl⟩
        rw [y1] at x1
        rw [y2] at x2
        obtain ⟨p1, p2, p3, p4⟩ := k1 k t1 x1
        obtain ⟨p5, p6, p7, p8⟩ := k2 k t2 x2
        rw [Nat.mul_comm 4 k] at p1 p2 p3 p4 p5 p6 p7 p8
        have hcmp := fun W => HC.out t1 t2 W
        have X1 := Lib.hid x1
        have X2 := Lib.hid x2
        clear k1 k2 g1 g2 x1 x2 y1 y2 hl1 hl2 HC
        by_cases he : t1 = t2
        · rw [decide_eq_true he] at hcmp
          have HE := Lib.hid (show ∀ j : Nat, j < k + 1 → l[j]? = m[j]? from fun j hj => by
            by_cases hjk : j = k
            · rw [hjk, X1.out, X2.out, he]
            · exact HZ.out j (by omega))
          clear he
          go_wp2
          go_quiet (fail)
          go_wp2
          go_roundw
          case rel => exact ⟨k + 1, _, by omega, by go_num, HE, rfl⟩
          case measure => simp [intOf]; omega
        · rw [decide_eq_false he] at hcmp
          have HE := Lib.hid (show decide (l = m) = false by
            rw [decide_eq_false_iff_not]
            intro e
            rw [e] at X1
            exact he (Option.some.inj (X1.out.symm.trans X2.out)))
          clear he
          go_wp2
          go_quiet (fail)
          go_wp2
          go_ret
          exact ⟨by rw [HE.out]; rfl, _, World.drewN_drewN _ _ _⟩
      · have hk0 : ¬ (k : Int) < (n : Int) := by omega
        have HE := Lib.hid (show decide (l = m) = true by
          rw [decide_eq_true_iff]
          exact tk_ext HNM.out (fun j hj => HZ.out j (by have := HN.out; omega)))
        go_wp2
        go_ret
        exact ⟨by rw [HE.out]; rfl, _, rfl⟩
  · have hne : ((l.length : Int) == (m.length : Int)) = false := by simp; omega
    have HE := Lib.hid (show decide (l = m) = false by
      rw [decide_eq_false_iff_not]
      intro e
      exact hnm (by rw [e]))
    clear g1 g2 hnm
    go_enter Try.func9, Try.ntmps9
    go_wp2
    go_ret
    exact ⟨by rw [HE.out]; rfl, 0, rfl⟩
end Go.Proofs.Ythadjopkfglecaa.Lex
