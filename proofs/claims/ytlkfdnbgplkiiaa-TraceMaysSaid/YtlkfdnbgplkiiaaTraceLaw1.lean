/-
  The walk of the law TraceMays. By an AI agent.
-/
import Derived.Test.YtlkfdnbgplkiiaaTraceTells
import Derived.Test.YtlkfdnbgplkiiaaTraceAwake
namespace Go.Proofs.Ytlkfdnbgplkiiaa.Trace
open Go.RowKit Go.Proofs.Ytlkfdnbgplkiiaa.Ints Go.Proofs.Ytlkfdnbgplkiiaa.Mem

set_option maxHeartbeats 8000000 in
set_option maxRecDepth 100000 in
theorem lawMays (A : Option Addr) (n c : Nat) (l : List (List UInt8)) (B : Option Addr) (m d : Nat) (ids : List Int) (p : Int) (NA : Option Addr) (nn nc : Nat) (EA : Option Addr) (ne ec : Nat) (NB : Option Addr) (mn mc : Nat) (EB : Option Addr) (me mk : Nat) (t u : Tr) (i : Int) (s : ByteArray) (w : World)
    (hl : l.length = n) (hA : Strs w A l) (hsz : ∀ s ∈ l, s.length ≤ maxLen) (hnc : n ≤ c ∧ c ≤ maxLen) (hr : Rd .i64 w B m ids) (hm : m ≤ maxLen) (hp : small64 p)
    (h : TrOk Any w NA nn nc EA ne ec t) (k : TrOk Any w NB mn mc EB me mk u) (hi : small64 i) :
    Calls Try.prog 3 #[.slice A n c, .slice B m d, .int .i64 p, .agg #[.slice NA nn nc, .slice EA ne ec], .agg #[.slice NB mn mc, .slice EB me mk], .int .i64 i, .string s] w fun e w' => e = .returned (.bool true) ∧ Below w.heap.size w w' := by
  have hx : maxLen = 9223372036854775807 := rfl
  have hn64 : (n : Int) ≤ 9223372036854775807 := by omega
  have hm64 : (m : Int) ≤ 9223372036854775807 := by omega
  obtain ⟨hp1, hp2⟩ := hp
  obtain ⟨hi1, hi2⟩ := hi
  have HA := Lib.hid (fun W => awake W)
  have B2 := Lib.hid (show Below w.heap.size w (boxT2 w NA nn nc EA ne ec NB mn mc EB me mk) from boxT2_below (boxT2_call (Below.refl _ _)))
  by_cases h1 : 200 < n
  · have h1' : decide ((n : Int) > 200) = true := by simp; omega
    clear hl hA hsz hnc hr hm h k hx h1
    go_enter Try.func3, Try.ntmps3
    go_wp2_with (go_at_call 9; refine (HA.out _).mono ?_; rintro e w1 ⟨rfl, hb1⟩)
    go_ret
    exact ⟨rfl, B2.out.trans (hb1.mono B2.out.size)⟩
  · have h1' : decide ((n : Int) > 200) = false := by simp; omega
    by_cases h2 : 200 < m
    · have h2' : decide ((m : Int) > 200) = true := by simp; omega
      clear hl hA hsz hnc hr hm h k hx h1 h2
      go_enter Try.func3, Try.ntmps3
      go_wp2_with (go_at_call 9; refine (HA.out _).mono ?_; rintro e w1 ⟨rfl, hb1⟩)
      go_ret
      exact ⟨rfl, B2.out.trans (hb1.mono B2.out.size)⟩
    · have h2' : decide ((m : Int) > 200) = false := by simp; omega
      have HC := Lib.hid (fun W (hb : Below (boxT2 w NA nn nc EA ne ec NB mn mc EB me mk).heap.size (boxT2 w NA nn nc EA ne ec NB mn mc EB me mk) W) => boxT2_all hb)
      have hG1 := fun W (hb : Below w.heap.size w W) => lawGreat NA nn nc EA ne ec t W (h.below hb)
      rcases hg1 : greatT t
      · rw [great_not hg1] at hG1
        have hG2 := fun W (hb : Below w.heap.size w W) => lawGreat NB mn mc EB me mk u W (k.below hb)
        rcases hg2 : greatT u
        · rw [great_not hg2] at hG2
          have hs1 := (great_small hg1).1
          have hs2 := (great_small hg2).1
          have P1 := fun W (hb : Below w.heap.size w W) => (landNames A n c l W hl hnc.1 (hA.below hb) hsz).mono fun e w' hh => (⟨hh.1, hh.2 ▸ Below.refl _ _⟩ : e = _ ∧ Below W.heap.size W w')
          have R1 := fun W (hb : Below w.heap.size w W) => refNames A n c l W hl hnc.1 (hA.below hb) hsz
          have P2 := fun W (hb : Below w.heap.size w W) => (landIds B m d p ids W (hr.below hb) hm ⟨hp1, hp2⟩).mono fun e w' hh => (⟨hh.1, hh.2 ▸ Below.refl _ _⟩ : e = _ ∧ Below W.heap.size W w')
          have R2 := fun W (hb : Below w.heap.size w W) => refIds B m d p ids W (hr.below hb) hm ⟨hp1, hp2⟩
          have HT := Lib.hid (fun W (hb : Below w.heap.size w W) => lawTells NA nn nc EA ne ec NB mn mc EB me mk t u i s W (h.below hb) (k.below hb) hs1 hs2 ⟨hi1, hi2⟩)
          obtain ⟨b1, e1⟩ : ∃ b, namesOk l = b := ⟨_, rfl⟩
          obtain ⟨b2, e2⟩ : ∃ b, idsOk ids p = b := ⟨_, rfl⟩
          rw [e1] at P1 R1
          rw [e2] at P2 R2
          have P1 := Lib.hid P1
          have R1 := Lib.hid R1
          have P2 := Lib.hid P2
          have R2 := Lib.hid R2
          have G1 := Lib.hid hG1
          have G2 := Lib.hid hG2
          clear hl hA hsz hnc hr hm h k hx h1 h2 hG1 hG2 hg1 hg2 hs1 hs2 e1 e2
          go_enter Try.func3, Try.ntmps3
          go_wp2_with fail
          refine (G1.out _ B2.out).mono ?_
          rintro e w1 ⟨rfl, hb1⟩
          have C1 := boxT2_all hb1
          obtain ⟨a0, a1, a2, a3⟩ := C1
          have D1 := Lib.hid (B2.out.trans (hb1.mono B2.out.size))
          have E1 := Lib.hid hb1
          clear hb1
          go_wp2_with fail
          refine (G2.out _ D1.out).mono ?_
          rintro e w2 ⟨rfl, hb2⟩
          have E2 := Lib.hid (E1.out.trans (hb2.mono E1.out.size))
          have D2 := Lib.hid (B2.out.trans (E2.out.mono B2.out.size))
          clear hb2 a0 a1 a2 a3
          go_wp2_with fail
          refine (P1.out _ D2.out).mono ?_
          rintro e w3 ⟨rfl, hb3⟩
          have E3 := Lib.hid (E2.out.trans (hb3.mono E2.out.size))
          have D3 := Lib.hid (B2.out.trans (E3.out.mono B2.out.size))
          clear hb3
          go_wp2_with fail
          refine (R1.out _ D3.out).mono ?_
          rintro e w' ⟨rfl, rfl⟩
          go_wp2_with fail
          refine (P2.out _ D3.out).mono ?_
          rintro e w4 ⟨rfl, hb4⟩
          have E4 := Lib.hid (E3.out.trans (hb4.mono E3.out.size))
          have D4 := Lib.hid (B2.out.trans (E4.out.mono B2.out.size))
          clear hb4
          go_wp2_with fail
          refine (R2.out _ D4.out).mono ?_
          rintro e w'' ⟨rfl, rfl⟩
          obtain ⟨a0, a1, a2, a3⟩ := HC.out _ E4.out
          go_wp2_with fail
          refine (HT.out _ D4.out).mono ?_
          rintro e w5 ⟨rfl, hb5⟩
          have D5 := Lib.hid (D4.out.trans (hb5.mono D4.out.size))
          clear hb5 a0 a1 a2 a3
          go_wp2_with fail
          refine (HA.out _).mono ?_
          rintro e w6 ⟨rfl, hb6⟩
          have D6 := Lib.hid (D5.out.trans (hb6.mono D5.out.size))
          clear hb6
          go_wp2
          go_ret
          exact ⟨rfl, D6.out⟩
        · rw [great_one hg2] at hG2
          have G1 := Lib.hid hG1
          have G2 := Lib.hid hG2
          clear hl hA hsz hnc hr hm h k hx h1 h2 hG1 hG2 hg1 hg2
          go_enter Try.func3, Try.ntmps3
          go_wp2_with fail
          refine (G1.out _ B2.out).mono ?_
          rintro e w1 ⟨rfl, hb1⟩
          obtain ⟨a0, a1, a2, a3⟩ := boxT2_all hb1
          have D1 := Lib.hid (B2.out.trans (hb1.mono B2.out.size))
          clear hb1
          go_wp2_with fail
          refine (G2.out _ D1.out).mono ?_
          rintro e w2 ⟨rfl, hb2⟩
          have D2 := Lib.hid (D1.out.trans (hb2.mono D1.out.size))
          clear hb2 a0 a1 a2 a3
          go_wp2_with fail
          refine (HA.out _).mono ?_
          rintro e w6 ⟨rfl, hb6⟩
          have D6 := Lib.hid (D2.out.trans (hb6.mono D2.out.size))
          clear hb6
          go_wp2
          go_ret
          exact ⟨rfl, D6.out⟩
      · rw [great_one hg1] at hG1
        have G1 := Lib.hid hG1
        clear hl hA hsz hnc hr hm h k hx h1 h2 hG1 hg1
        go_enter Try.func3, Try.ntmps3
        go_wp2_with fail
        refine (G1.out _ B2.out).mono ?_
        rintro e w1 ⟨rfl, hb1⟩
        have D1 := Lib.hid (B2.out.trans (hb1.mono B2.out.size))
        clear hb1
        go_wp2_with fail
        refine (HA.out _).mono ?_
        rintro e w6 ⟨rfl, hb6⟩
        have D6 := Lib.hid (D1.out.trans (hb6.mono D1.out.size))
        clear hb6
        go_wp2
        go_ret
        exact ⟨rfl, D6.out⟩
end Go.Proofs.Ytlkfdnbgplkiiaa.Trace
