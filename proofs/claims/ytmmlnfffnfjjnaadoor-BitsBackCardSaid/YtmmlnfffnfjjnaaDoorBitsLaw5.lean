/-
  The walk of the law BitsBack: a set is that of its numbers, which rise; those below a number are below it, and the rest is not. By an AI agent.
-/
import Derived.Test.YtmmlnfffnfjjnaaDoorBitsLaw1
import Derived.Test.YtmmlnfffnfjjnaaDoorBitsCut2
namespace Go.Proofs.YtmmlnfffnfjjnaaDoor.BitsWalks
open Go.RowKit Go.Proofs.YtmmlnfffnfjjnaaDoor.Ints Go.Proofs.YtmmlnfffnfjjnaaDoor.Words Go.Proofs.YtmmlnfffnfjjnaaDoor.RdW

theorem back_set {xs us : List Nat} {n : Nat} (hl : xs.length = n) (hn : n ≤ 64) (hx : Ws xs) (hu : IsSet us (ofI (ints (elems 0 xs)))) : same us xs = true := by
  rw [same_iff hu.1 hx]
  intro k
  rw [hu.2.2]
  unfold ofI
  rw [Bool.eq_iff_iff, decide_eq_true_iff, ← has_elems]
  constructor
  · rintro ⟨_, h⟩
    obtain ⟨x, h1, h2⟩ := List.mem_map.1 h
    have : x = k := Int.ofNat.inj h2
    rwa [← this]
  · intro h
    have h1 := has_lt ((has_elems xs k).1 h)
    exact ⟨by omega, List.mem_map.2 ⟨k, h, rfl⟩⟩

set_option maxHeartbeats 4000000 in
theorem lawBack (A : Option Addr) (n c : Nat) (xs : List Nat) (k : Int) (w : World) (hk : k ≤ 9223372036854775807) (hnc : n ≤ c) (hcm : c ≤ maxLen) (hX : RdW w A n xs) (hT : Tab w) :
    Calls Tryd.prog 7 #[.slice A n c, .int .i64 k] w fun e w' => e = .returned (.bool true) ∧ Below w.heap.size w w' := by
  by_cases hbig : 64 < n
  · have hb1 : (64 : Int) < (n : Int) := by omega
    go_enter Tryd.func7, Tryd.ntmps7
    go_wp2_with (go_at_call 8; refine (awake _ hT).mono ?_; rintro e w' ⟨rfl, hb⟩)
    go_ret
    exact ⟨rfl, by assumption⟩
  have hb1 : ¬ (64 : Int) < (n : Int) := by omega
  have hn : n ≤ 1048576 := by omega
  have hn63 : n ≤ maxLen := Nat.le_trans hnc hcm
  have hxl := hX.len
  have hxw := hX.ws
  have HB := Below.refl w.heap.size w
  have htl := total_le xs
  have HXL := Lib.hid hxl
  clear hxl
  go_enter Tryd.func7, Tryd.ntmps7
  go_wp2_with fail
  refine (list_ A n c xs w hn hX hT).mono ?_
  rintro e w1 ⟨D, nD, cD, rfl, hnD, hD, hncD, hcmD, hb⟩
  replace hX := hX.below hb
  replace hT := hT.later hb
  replace HB := HB.trans (hb.mono HB.size)
  clear hb
  have HND := Lib.hid hnD
  have hDb : nD ≤ 4096 := by
    rw [hnD, elems_len]
    have := HXL.out
    omega
  have htl2 : total xs ≤ 4096 := by have := HXL.out; omega
  clear hnD htl
  go_wp2
  go_loopw [16] (fun i wr => ∃ j : Nat, j ≤ nD ∧ i = .int .i64 j ∧ Below w1.heap.size w1 wr) (fun i _ => nD - (intOf i).toNat)
  case atStart => exact ⟨0, Nat.zero_le _, rfl, Below.refl _ _⟩
  case round =>
    obtain ⟨j, hj, rfl, hB⟩ := hrel
    have hXr := hX.below hB
    have hDr := hD.below hB
    by_cases hjn : j < nD
    · have hjn' : (j : Int) < (nD : Int) := by omega
      obtain ⟨b, off, e1, hc⟩ := hDr.cell (by omega)
      subst e1
      have hc1 := hc j hjn
      rw [ints_at] at hc1
      have hmem := elems_has xs j (by rw [← HND.out]; exact hjn)
      obtain ⟨x, hx⟩ : ∃ x, (elems 0 xs)[j]?.getD 0 = x := ⟨_, rfl⟩
      rw [hx] at hc1 hmem
      have hxb : x < 4096 := by
        have := has_lt hmem
        have := HXL.out
        omega
      have hx63 : (x : Int) ≤ 9223372036854775807 := by omega
      have h1 := has_ A n c xs wr (x : Int) hx63 hXr
      have e2 : hasI xs (x : Int) = true := by simp [hasI, hmem]
      rw [e2] at h1
      have H1 := Lib.hid h1
      have HC := Lib.hid (cut_ A n c xs wr k hk hn hXr)
      have HM := Lib.hid hmem
      have hprev : ∀ q, j = q + 1 → ∃ y : Nat, wr.cell? ⟨b, off + q, none⟩ = some (.int .i64 (y : Nat)) ∧ y < x := by
        intro q hq
        refine ⟨(elems 0 xs)[q]?.getD 0, by rw [hc q (by omega), ints_at], ?_⟩
        rw [← hx]
        exact elems_lt xs q j (by omega) (by rw [← HND.out]; exact hjn)
      have HB1 := Lib.hid hB
      clear h1 e2 hmem hx hB hc hXr hDr
      go_wp2_with fail
      refine H1.out.mono ?_
      rintro e w' ⟨rfl, rfl⟩
      by_cases hj0 : j = 0
      case' pos =>
        subst hj0
        clear hprev
      case' neg =>
        obtain ⟨q, hq⟩ : ∃ q, j = q + 1 := ⟨j - 1, by omega⟩
        obtain ⟨y, hc2, hyx⟩ := hprev q hq
        subst hq
        have hyx' : ¬ (x : Int) ≤ (y : Int) := by omega
        have hq' : (q : Int) < (nD : Int) := by omega
        clear hprev hj0
      all_goals
        go_wp2_with fail
        refine HC.out.mono ?_
        rintro e w2 ⟨E, nE, cE, us, rfl, hs, hr, _, _, _, hb⟩
        have e3 : hasI us (x : Int) = decide ((x : Int) < k) := by
          have h3 := hs.2.2 x
          simp only [HM.out, Bool.true_and] at h3
          unfold hasI
          rw [Int.toNat_natCast, h3]
          simp
        have h2 := has_ E nE cE us w2 (x : Int) hx63 hr
        rw [e3] at h2
        have H2 := Lib.hid h2
        have HB2 := Lib.hid (HB1.out.trans (hb.mono HB1.out.size))
        clear h2 e3 hs hr hb
        go_wp2_with fail
        refine H2.out.mono ?_
        rintro e w' ⟨rfl, rfl⟩
        go_wp2
        go_roundw
        case rel => first | exact ⟨0 + 1, by omega, by go_num, HB2.out⟩ | exact ⟨q + 1 + 1, by omega, by go_num, HB2.out⟩
        case measure => simp [intOf]; omega
    · have hjn' : ¬ (j : Int) < (nD : Int) := by omega
      have hT2 := hT.later hB
      have hB2 := HB.trans (hB.mono HB.size)
      have hcnt := count_ A n c xs wr hn hXr
      have e1 : total xs = nD := by rw [HND.out, elems_len]
      rw [e1] at hcnt
      have HCN := Lib.hid hcnt
      have HO := Lib.hid (of_ D nD cD _ wr (Nat.le_trans hncD hcmD) hDr)
      have HXR := Lib.hid hXr
      clear hcnt e1 hB hD hX hDr htl2 hXr
      go_wp2_with fail
      refine HCN.out.mono ?_
      rintro e w' ⟨rfl, rfl⟩
      go_wp2_with fail
      refine HO.out.mono ?_
      rintro e w3 ⟨E, nE, cE, us, rfl, hs, hr, hncE, hcmE, _, hb⟩
      have hc := same_ E A nE cE n c us xs w3 (Nat.le_trans hncE hcmE) hn63 hr (HXR.out.below hb)
      rw [back_set HXL.out (by omega) hxw hs] at hc
      have HSM := Lib.hid hc
      replace hT2 := hT2.later hb
      replace hB2 := hB2.trans (hb.mono hB2.size)
      clear hc hs hr hb
      go_wp2_with fail
      refine HSM.out.mono ?_
      rintro e w' ⟨rfl, rfl⟩
      go_wp2_with fail
      refine (awake w3 hT2).mono ?_
      rintro e w4 ⟨rfl, hb⟩
      have HB3 := Lib.hid (hB2.trans (hb.mono hB2.size))
      clear hb hB2
      go_wp2
      go_ret
      exact ⟨rfl, HB3.out⟩
end Go.Proofs.YtmmlnfffnfjjnaaDoor.BitsWalks
