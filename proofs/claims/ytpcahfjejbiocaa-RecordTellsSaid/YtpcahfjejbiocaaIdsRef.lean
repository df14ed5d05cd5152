/-
  The walk of the reference's Ids. By an AI agent.
-/
import Derived.Test.YtpcahfjejbiocaaIdsN
namespace Go.Proofs.Ytpcahfjejbiocaa.Trace
open Go.RowKit Go.Proofs.Ytpcahfjejbiocaa.Ints Go.Proofs.Ytpcahfjejbiocaa.Mem

set_option maxHeartbeats 4000000 in
set_option maxRecDepth 100000 in
theorem refIds (A : Option Addr) (n c : Nat) (p : Int) (l : List Int) (w : World) (h : Rd .i64 w A n l) (hm : n ≤ maxLen) (hp : small64 p) :
    Calls Try.prog 22 #[.slice A n c, .int .i64 p] w fun e w' => e = .returned (.bool (idsOk l p)) ∧ w' = w := by
  have hni : (n : Int) ≤ 9223372036854775807 := by have : maxLen = 9223372036854775807 := rfl; omega
  obtain ⟨hp1, hp2⟩ := hp
  have HD := Lib.hid h
  have HL := Lib.hid h.len
  clear h hm
  go_enter Try.func22, Try.ntmps22
  go_wp2
  go_loop [9] (fun i => ∃ k : Nat, k ≤ n ∧ i = .int .i64 k ∧ Hid (∀ j, j < k → IdGood l p j)) (fun i => n - (intOf i).toNat)
  case atStart => exact ⟨0, Nat.zero_le _, rfl, fun j hj => absurd hj (by omega)⟩
  case round =>
    obtain ⟨k, hk, rfl, HG⟩ := hrel
    by_cases hkn : k < n
    · have hkn' : (k : Int) < (n : Int) := by omega
      obtain ⟨b, off, e, hc⟩ := HD.out.cell (by omega)
      have x0 := hc k hkn
      have hw := wf_i64 (HD.out.wf k hkn)
      have hgk : l.getD k 0 = l[k]?.getD 0 := by simp [List.getD]
      have hlen : k < l.length := by have := HL.out; omega
      obtain ⟨x, hx⟩ : ∃ x, l[k]?.getD 0 = x := ⟨_, rfl⟩
      rw [hx] at x0 hw hgk
      obtain ⟨hw1, hw2⟩ := hw
      subst e
      by_cases h1 : x < 0
      · have HR := Lib.hid (ids_no (p := p) hlen (fun e => by have := e.1; rw [hgk] at this; omega))
        clear hgk hlen hx hc
        go_wp2
        go_ret
        exact ⟨by rw [HR.out]; rfl, rfl⟩
      · have h1' : decide (x < 0) = false := decide_eq_false h1
        by_cases h2 : p ≤ x
        · have h2' : decide (x ≥ p) = true := decide_eq_true h2
          have HR := Lib.hid (ids_no (p := p) hlen (fun e => by have := e.2.1; rw [hgk] at this; omega))
          clear hgk hlen hx hc
          go_wp2
          go_ret
          exact ⟨by rw [HR.out]; rfl, rfl⟩
        · have h2' : decide (x ≥ p) = false := decide_eq_false h2
          by_cases h0 : k = 0
          · have HZ := Lib.hid (good_more HG.out (p := IdGood l p) (k := k) ⟨by rw [hgk]; omega, by rw [hgk]; omega, fun h => absurd h (by omega)⟩)
            clear hgk hlen hx hc
            subst h0
            rw [Nat.add_zero] at x0
            have hn0 : (0 : Int) < (n : Int) := by omega
            go_wp2
            go_round
            case rel => exact ⟨1, by omega, by go_num, HZ⟩
            case measure => simp [intOf]; omega
          · have h0' : decide ((k : Int) > 0) = true := by simp; omega
            have y0 := hc (k - 1) (by omega)
            have hgk2 : l.getD (k - 1) 0 = l[k - 1]?.getD 0 := by simp [List.getD]
            obtain ⟨y, hy⟩ : ∃ y, l[k - 1]?.getD 0 = y := ⟨_, rfl⟩
            rw [hy] at y0 hgk2
            have hk1 : (k : Int) - 1 = ((k - 1 : Nat) : Int) := by omega
            have hk2 : ((k - 1 : Nat) : Int) < (n : Int) := by omega
            by_cases h3 : x ≤ y
            · have HR := Lib.hid (ids_no (p := p) hlen (fun e => by have := e.2.2 (by omega); rw [hgk, hgk2] at this; omega))
              clear hgk hgk2 hlen hx hy hc
              go_wp2
              go_ret
              exact ⟨by rw [HR.out]; rfl, rfl⟩
            · have h3' : decide (x ≤ y) = false := decide_eq_false h3
              have HZ := Lib.hid (good_more HG.out (p := IdGood l p) (k := k) ⟨by rw [hgk]; omega, by rw [hgk]; omega, fun _ => by rw [hgk, hgk2]; omega⟩)
              clear hgk hgk2 hlen hx hy hc
              go_wp2
              go_round
              case rel => exact ⟨k + 1, by omega, by go_num, HZ⟩
              case measure => simp [intOf]; omega
    · have hge : decide ((k : Int) < (n : Int)) = false := by simp; omega
      have HR := Lib.hid (ids_yes (l := l) (p := p) (fun j hj => HG.out j (by have := HL.out; omega)))
      go_wp2
      go_ret
      exact ⟨by rw [HR.out]; rfl, rfl⟩
end Go.Proofs.Ytpcahfjejbiocaa.Trace
