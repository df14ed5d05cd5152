/-
  The walk of the law IvalLater. By an AI agent.
-/
import Derived.Test.YtlcijipkdopllaaDoorIvalSpan
import Derived.Test.YtlcijipkdopllaaDoorIvalMath2
import Derived.Deep.RegionHeld3
namespace Go.Proofs.YtlcijipkdopllaaDoor.Ival
open Go.RowKit Go.Proofs.YtlcijipkdopllaaDoor.Itoa

theorem held_keep' {w w1 w2 : World} {g : Nat} {x y : Value} (hb : Below w1.heap.size w1 w2) (h0 : w1.cell? ⟨g, 0, none⟩ = some x) (h1 : w1.cell? ⟨g, 1, none⟩ = some y) (hT : Tab10 w1) (hB : Below w.heap.size w w1) :
    w2.cell? ⟨g, 0, none⟩ = some x ∧ w2.cell? ⟨g, 1, none⟩ = some y ∧ Tab10 w2 ∧ Below w.heap.size w w2 :=
  ⟨keep_cell hb h0, keep_cell hb h1, hT.later hb, hB.trans (hb.mono hB.size)⟩
theorem span_may' (l more : Int) (op : Bool) (h0 : 0 ≤ l) (h1 : l ≤ 9999) (h2 : 0 ≤ more) : mayS l (if op = true then -1 else min 9999 (l + more)) = true ∧ (op = true → (if op = true then (-1 : Int) else min 9999 (l + more)) = -1) := by
  refine ⟨?_, fun h => by rw [if_pos h]⟩
  unfold mayS
  rw [decide_eq_true_iff]
  split <;> omega

theorem wrap_small (x : Nat) (h : x < 18446744073709551616) : IntKind.u64.wrap (x : Int) = (x : Int) := by rw [IntKind.wrap_u64]; omega
theorem wrap_sum {d e q : Nat} (hq : d + e = q) (h : q < 18446744073709551616) : IntKind.u64.wrap ((d : Int) + (e : Int)) = (q : Int) := by rw [IntKind.wrap_u64]; omega
theorem wrap_some (c : Int) : ∃ U : Nat, IntKind.u64.wrap c = U := Int.eq_ofNat_of_zero_le (by rw [IntKind.wrap_u64]; exact Int.emod_nonneg _ (by decide))

set_option maxHeartbeats 4000000 in
theorem lawLater (lo more c : Int) (op : Bool) (d e : Nat) (w : World) (h1 : 0 ≤ lo ∧ lo ≤ 65535) (h2 : 0 ≤ more ∧ more ≤ 65535) (hd : d < 18446744073709551616) (he : e < 18446744073709551616) (hT : Tab10 w) :
    Calls Tryd.prog 5 #[.int .u16 lo, .int .u16 more, .bool op, .int .i64 c, .int .u64 d, .int .u64 e] w fun e w' => e = .returned (.bool true) ∧ Below w.heap.size w w' := by
  have hS := lawSpan lo more op w h1 h2
  obtain ⟨hmay, hop⟩ := span_may' (lo % 10000) more op (by omega) (by omega) h2.1
  obtain ⟨L, hL⟩ : ∃ L, lo % 10000 = L := ⟨_, rfl⟩
  rw [hL] at hS hmay hop
  obtain ⟨H, hH⟩ : ∃ H, (if op = true then -1 else min 9999 (L + more)) = H := ⟨_, rfl⟩
  rw [hH] at hS hmay hop
  clear hL hH
  have hW := fun W => progWide L H W
  have hwl := wide_le L H
  have hwp := wide_pos hmay
  obtain ⟨V, hV⟩ : ∃ V : Nat, wideS L H = V := ⟨(wideS L H).toNat, by omega⟩
  obtain ⟨U, hU⟩ := wrap_some c
  obtain ⟨x, hx⟩ : ∃ x : Nat, U % V = x := ⟨_, rfl⟩
  have hxV : (x : Int) < wideS L H := by
    have : U % V < V := Nat.mod_lt _ (by omega)
    omega
  have hx4 : x < 10000 := by
    have h3 := hwl.2
    clear hx hU
    omega
  have hx64 : x < 18446744073709551616 := Nat.lt_trans hx4 (by decide)
  have hcs := class_self hmay hxV
  have hlz := later_zero (lo := L) (hi := H) (c := (x : Int)) (by omega) hxV
  have hC := fun W => progClass L H x W hx64
  rw [hcs] at hC
  have hZ := fun W => progLater L H (x : Int) 0 W (by omega)
  rw [hlz] at hZ
  have hD := fun W => progLater L H (x : Int) d W hd
  have hE := fun W => progLater L H (laterS L H (x : Int) d) e W he
  rw [later_twice d e hmay hxV] at hE
  obtain ⟨z, hz⟩ : ∃ z, laterS L H (x : Int) (d + e) = z := ⟨_, rfl⟩
  rw [hz] at hE
  have hDE : ∀ q : Nat, d + e = q → q < 18446744073709551616 → ∀ W, Calls Tryd.prog 19 #[span L H, .int .i64 (x : Int), .int .u64 q] W fun e w' => e = .returned (.int .i64 z) ∧ Below W.heap.size W w' := fun q hq hov W => by
    subst hq
    have h := progLater L H (x : Int) (d + e) W hov
    rwa [hz] at h
  have hopen : op = true → 0 ≤ laterS L H (x : Int) d := fun h => later_open d hmay hxV (hop h)
  rw [hV] at hW hwl hwp
  have e1 : max 1 (V : Int) = (V : Int) := by omega
  have e2 := wrap_small V (by omega)
  have e3 : (U : Int) % (V : Int) = (x : Int) := by omega
  have e4 : wrap64 (x : Int) = (x : Int) := IntWalk.wrap64_in _ ⟨by omega, by have := hx4; clear hx hU; omega⟩
  have e5 := wrap_small x hx64
  have hU0 : (0 : Int) ≤ (U : Int) := by omega
  have hV0 : (V : Int) ≠ 0 := by omega
  obtain ⟨y, hy⟩ : ∃ y, laterS L H (x : Int) d = y := ⟨_, rfl⟩
  rw [hy] at hD hE hopen
  have HW := Lib.hid hW
  have HC := Lib.hid hC
  have HZ := Lib.hid hZ
  have HD := Lib.hid hD
  have HE := Lib.hid hE
  have HDE := Lib.hid hDE
  have HO := Lib.hid hopen
  have HS := Lib.hid hS
  clear hW hC hZ hD hE hDE hopen hS hy hz hcs hlz hxV hV hmay hop h1 h2 hx
  go_enter Tryd.func5, Tryd.ntmps5
  go_wp2_with fail
  refine HS.out.mono ?_
  rintro e w1 ⟨rfl, hb⟩
  have hBa := hb.alloc hb.size (.cells #[.int .i64 L, .int .i64 H] 23)
  have hTa := hT.later hBa
  clear hb
  go_wp2_with fail
  refine (HW.out _).mono ?_
  rintro e w2 ⟨rfl, hb⟩
  have hc0 := box0 hb
  have hc1 := box1 hb
  have hT0 := hTa.later hb
  have hB0 := hBa.trans (hb.mono hBa.size)
  clear hb hTa hBa
  have step : ∀ {wa wb : World} (hb : Below wa.heap.size wa wb), wa.cell? ⟨w1.heap.size, 0, none⟩ = some (.int .i64 L) → wa.cell? ⟨w1.heap.size, 1, none⟩ = some (.int .i64 H) → Tab10 wa → Below w.heap.size w wa →
      wb.cell? ⟨w1.heap.size, 0, none⟩ = some (.int .i64 L) ∧ wb.cell? ⟨w1.heap.size, 1, none⟩ = some (.int .i64 H) ∧ Tab10 wb ∧ Below w.heap.size w wb := fun hb a b c d => held_keep' hb a b c d
  go_wp2_with fail
  refine (HC.out _).mono ?_
  rintro e w3 ⟨rfl, hb⟩
  obtain ⟨hc0, hc1, hT0, hB0⟩ := step hb hc0 hc1 hT0 hB0
  clear hb
  go_wp2_with fail
  refine (HZ.out _).mono ?_
  rintro e w4 ⟨rfl, hb⟩
  obtain ⟨hc0, hc1, hT0, hB0⟩ := step hb hc0 hc1 hT0 hB0
  clear hb
  by_cases hov : d + e < 18446744073709551616
  · obtain ⟨q, hq⟩ : ∃ q, d + e = q := ⟨_, rfl⟩
    have hDE := fun W => HDE.out q hq (by omega) W
    have f1 := wrap_sum hq (by omega)
    have f2 : ¬ (q : Int) < (d : Int) := by omega
    have f3 : decide ((q : Int) < (d : Int)) = false := by simp; omega
    have HDE2 := Lib.hid hDE
    clear hq hov hDE
    go_wp2_with fail
    refine (HD.out _).mono ?_
    rintro e w5 ⟨rfl, hb⟩
    obtain ⟨hc0, hc1, hT0, hB0⟩ := step hb hc0 hc1 hT0 hB0
    clear hb
    cases op
    case' false =>
      skip
    case' true =>
      have hy0 := HO.out rfl
      have hy1 : decide (y < 0) = false := by simp; omega
    all_goals
      go_wp2_with fail
      go_region_held3 (fun w' => w'.cell? ⟨w1.heap.size, 0, none⟩ = some (.int .i64 L) ∧ w'.cell? ⟨w1.heap.size, 1, none⟩ = some (.int .i64 H) ∧ Tab10 w' ∧ Below w.heap.size w w')
        (first
          | exact ⟨hc0, hc1, hT0, hB0⟩
          | exact ⟨hc0, hc1, hT0, hB0.drew⟩
          | (go_split_ands; exact held_keep' hb (by assumption) (by assumption) (by assumption) (by assumption))
          | fail)
        (first
          | (go_at_call 19; with_reducible (refine (HE.out _).mono ?_); rintro e w' ⟨rfl, hb⟩)
          | (go_at_call 19; with_reducible (refine (HDE2.out _).mono ?_); rintro e w' ⟨rfl, hb⟩)
          | (go_at_call 21; go_split_ands; refine (awake _ (by assumption)).mono ?_; rintro e w' ⟨rfl, hb⟩))
      go_split_ands
      go_wp2
      go_ret
      exact ⟨rfl, by assumption⟩
  · obtain ⟨q, hq⟩ : ∃ q, d + e - 18446744073709551616 = q := ⟨_, rfl⟩
    have f1 : IntKind.u64.wrap ((d : Int) + (e : Int)) = (q : Int) := by rw [IntKind.wrap_u64]; omega
    have f2 : (q : Int) < (d : Int) := by omega
    clear hq hov
    go_wp2_with fail
    refine (HC.out _).mono ?_
    rintro e w5 ⟨rfl, hb⟩
    obtain ⟨hc0, hc1, hT0, hB0⟩ := step hb hc0 hc1 hT0 hB0
    clear hb
    go_wp2_with fail
    refine (HZ.out _).mono ?_
    rintro e w6 ⟨rfl, hb⟩
    obtain ⟨hc0, hc1, hT0, hB0⟩ := step hb hc0 hc1 hT0 hB0
    clear hb
    go_wp2_with fail
    refine (awake _ hT0).mono ?_
    rintro e w7 ⟨rfl, hb⟩
    have HB := Lib.hid (hB0.trans (hb.mono hB0.size))
    clear hb
    go_wp2
    go_ret
    exact ⟨rfl, HB.out⟩
end Go.Proofs.YtlcijipkdopllaaDoor.Ival
