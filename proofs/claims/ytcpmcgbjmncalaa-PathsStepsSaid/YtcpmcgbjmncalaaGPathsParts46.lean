/-
  Tables compared, and whether they are square: the law's own words (stage 14). By an AI agent.
  The law PathsAll (stage 14). By an AI agent. (Written by wip/tools/genlaw2_14.py.)
  Lists of lists of words that came in. By an AI agent.
-/
import Derived.Test.YtcpmcgbjmncalaaGPathsParts4
import Derived.Test.YtcpmcgbjmncalaaGPathsParts45
import Derived.Test.YtcpmcgbjmncalaaGPathsParts12
import Derived.Test.YtcpmcgbjmncalaaGPathsParts1
namespace Go.Proofs.Ytcpmcgbjmncalaa.Paths
open Go.RowKit Go.Proofs.Ytcpmcgbjmncalaa.Ints Go.Proofs.Ytcpmcgbjmncalaa.Mem Go.Proofs.Ytcpmcgbjmncalaa.Src

set_option maxHeartbeats 4000000 in
set_option maxRecDepth 100000 in
theorem lawSquare (A : Option Addr) (n c n2 : Nat) (m : Tb) (w : World) (h : RdT w A n m) (h2 : n2 = n) (hc : n ≤ c) (hn : n ≤ 1000000) :
    Calls Try.prog 22 #[.slice A n c, .int .i64 (n2 : Nat)] w fun e w' => e = .returned (.bool true) ∧ w' = w := by
  subst h2
  have HT := Lib.hid h
  clear h
  go_enter Try.func22, Try.ntmps22
  go_wp2_with fail
  go_loopw [6, 13] (fun _ v wr => ∃ i : Nat, v = .int .i64 (i : Nat) ∧ i ≤ n2 ∧ wr = w) (fun _ v _ => n2 - (intOf v).toNat)
  case atStart => exact ⟨0, rfl, Nat.zero_le _, rfl⟩
  case round =>
    obtain ⟨i, rfl, hin, rfl⟩ := hrel
    by_cases hlt : i < n2
    · obtain ⟨b, off, rfl, hr⟩ := HT.out (by omega)
      obtain ⟨K, o, cK, x1, x2, x3, -⟩ := hr i hlt
      clear hr
      go_wp2_with fail
      go_roundw
      case rel => exact ⟨i + 1, by simp, by omega, by first | rfl | trivial⟩
      case measure => (show n2 - (i + 1) < n2 - i; omega)
    · go_wp2_with fail
      go_ret
      exact ⟨rfl, rfl⟩
set_option maxHeartbeats 4000000 in
set_option maxRecDepth 100000 in
theorem eqBools (b1 o1 c1 b2 o2 c2 n : Nat) (f : Nat → Bool) (w : World) (hn : n ≤ 1000000) (h1 : ∀ j, j < n → w.cell? ⟨b1, o1 + j, none⟩ = some (.bool (f j))) (h2 : ∀ j, j < n → w.cell? ⟨b2, o2 + j, none⟩ = some (.bool (f j))) :
    Calls Try.prog 26 #[.slice (some ⟨b1, o1, none⟩) n c1, .slice (some ⟨b2, o2, none⟩) n c2] w fun e w' => e = .returned (.bool true) ∧ Below w.heap.size w w' := by
  have H1 := Lib.hid h1
  have H2 := Lib.hid h2
  have HB0 := Lib.hid (Below.refl w.heap.size w)
  clear h1 h2
  go_enter Try.func26, Try.ntmps26
  go_wp2_with fail
  go_loopw [5, 13] (fun _ v wr => ∃ i : Nat, v = .int .i64 (i : Nat) ∧ i ≤ n ∧ Below w.heap.size w wr) (fun _ v _ => n - (intOf v).toNat)
  case atStart => exact ⟨0, rfl, Nat.zero_le _, HB0.out⟩
  case round =>
    obtain ⟨i, rfl, hin, hB⟩ := hrel
    have HB := Lib.hid hB
    by_cases hlt : i < n
    · have x1 := below_cell hB (H1.out i hlt)
      have x2 := below_cell hB (H2.out i hlt)
      clear hB
      go_wp2_with fail
      cases hv : f i <;> rw [hv] at x1 x2
      · refine wp_region_held_drew (S := fun W => W.cell? ⟨b1, o1 + i, none⟩ = some (.bool false) ∧ W.cell? ⟨b2, o2 + i, none⟩ = some (.bool false)) (by kernel_rfl) ⟨x1, x2⟩ (fun hHeld => ?_)
        refine wpAnyH_take (i := 0) (oi := ?tko1) (v := ?tkv1) ?tkh1 (by kernel_rfl) (by kernel_rfl) (by kernel_rfl) ?tkq1 ?tky1 hHeld ?tkr1
        case tkh1 => (simp only [List.getElem?_toArray, List.getElem?_cons_zero]; rfl)
        case tkq1 => exact fun _ _ _ h => h
        case tky1 => exact Or.inl ⟨by rfl, by intro wSw hSw; (try dsimp only at hSw); go_simp; try with_reducible rfl⟩
        try simp only [Act.put, List.setIfInBounds_toArray, List.set_cons_zero, List.set_cons_succ]
        refine wpAnyH_take (i := 1) (oi := ?tko2) (v := ?tkv2) ?tkh2 (by kernel_rfl) (by kernel_rfl) (by kernel_rfl) ?tkq2 ?tky2 hHeld ?tkr2
        case tkh2 => (simp only [List.getElem?_toArray, List.getElem?_cons_succ, List.getElem?_cons_zero]; rfl)
        case tkq2 => exact fun _ _ _ h => h
        case tky2 => exact Or.inl ⟨by rfl, by intro wSw hSw; (try dsimp only at hSw); go_simp; try with_reducible rfl⟩
        try simp only [Act.put, List.setIfInBounds_toArray, List.set_cons_zero, List.set_cons_succ]
        refine wpAnyH_take (i := 2) (oi := ?tko3) (v := ?tkv3) ?tkh3 (by kernel_rfl) (by kernel_rfl) (by kernel_rfl) ?tkq3 ?tky3 hHeld ?tkr3
        case tkh3 => (simp only [List.getElem?_toArray, List.getElem?_cons_succ, List.getElem?_cons_zero]; rfl)
        case tkq3 => exact fun _ _ _ h => h
        case tky3 => exact Or.inl ⟨by rfl, by intro wSw hSw; (try dsimp only at hSw); go_simp; try with_reducible rfl⟩
        try simp only [Act.put, List.setIfInBounds_toArray, List.set_cons_zero, List.set_cons_succ]
        refine wpAnyH_take (i := 3) (oi := ?tko4) (v := ?tkv4) ?tkh4 (by kernel_rfl) (by kernel_rfl) (by kernel_rfl) ?tkq4 ?tky4 hHeld ?tkr4
        case tkh4 => (simp only [List.getElem?_toArray, List.getElem?_cons_succ, List.getElem?_cons_zero]; rfl)
        case tkq4 => exact fun _ _ _ h => h
        case tky4 => exact Or.inl ⟨by rfl, by intro wSw hSw; (try dsimp only at hSw); go_simp; try with_reducible rfl⟩
        try simp only [Act.put, List.setIfInBounds_toArray, List.set_cons_zero, List.set_cons_succ]
        refine wpAnyH_take (i := 4) (oi := ?tko5) (v := ?tkv5) ?tkh5 (by kernel_rfl) (by kernel_rfl) (by kernel_rfl) ?tkq5 ?tky5 hHeld ?tkr5
        case tkh5 => (simp only [List.getElem?_toArray, List.getElem?_cons_succ, List.getElem?_cons_zero]; rfl)
        case tkq5 => exact fun _ _ _ h => h
        case tky5 => exact Or.inl ⟨by rfl, by intro wSw hSw; (try dsimp only at hSw); go_simp; try with_reducible rfl⟩
        try simp only [Act.put, List.setIfInBounds_toArray, List.set_cons_zero, List.set_cons_succ]
        refine wpAnyH_take (i := 5) (oi := ?tko6) (v := ?tkv6) ?tkh6 (by kernel_rfl) (by kernel_rfl) (by kernel_rfl) ?tkq6 ?tky6 hHeld ?tkr6
        case tkh6 => (simp only [List.getElem?_toArray, List.getElem?_cons_succ, List.getElem?_cons_zero]; rfl)
        case tkq6 => exact fun _ _ _ h => h
        case tky6 => exact Or.inl ⟨by rfl, by intro wSw hSw; (try dsimp only at hSw); go_simp; try with_reducible rfl⟩
        try simp only [Act.put, List.setIfInBounds_toArray, List.set_cons_zero, List.set_cons_succ]
        refine wpAnyH_take (i := 6) (oi := ?tko7) (v := ?tkv7) ?tkh7 (by kernel_rfl) (by kernel_rfl) (by kernel_rfl) ?tkq7 ?tky7 hHeld ?tkr7
        case tkh7 => (simp only [List.getElem?_toArray, List.getElem?_cons_succ, List.getElem?_cons_zero]; rfl)
        case tkq7 => exact fun _ _ _ h => h
        case tky7 => exact Or.inl ⟨by rfl, by intro wSw hSw; (try dsimp only at hSw); go_simp; try with_reducible rfl⟩
        try simp only [Act.put, List.setIfInBounds_toArray, List.set_cons_zero, List.set_cons_succ]
        refine wpAnyH_take (i := 7) (oi := ?tko8) (v := ?tkv8) ?tkh8 (by kernel_rfl) (by kernel_rfl) (by kernel_rfl) ?tkq8 ?tky8 hHeld ?tkr8
        case tkh8 => (simp only [List.getElem?_toArray, List.getElem?_cons_succ, List.getElem?_cons_zero]; rfl)
        case tkq8 => exact fun _ _ _ h => h
        case tky8 => exact Or.inl ⟨by rfl, by intro wSw hSw; (try dsimp only at hSw); go_simp; try with_reducible rfl⟩
        try simp only [Act.put, List.setIfInBounds_toArray, List.set_cons_zero, List.set_cons_succ]
        refine wpAnyH_take (i := 8) (oi := ?tko9) (v := ?tkv9) ?tkh9 (by kernel_rfl) (by kernel_rfl) (by kernel_rfl) ?tkq9 ?tky9 hHeld ?tkr9
        case tkh9 => (simp only [List.getElem?_toArray, List.getElem?_cons_succ, List.getElem?_cons_zero]; rfl)
        case tkq9 => exact fun _ _ _ h => h
        case tky9 => exact Or.inl ⟨by rfl, by intro wSw hSw; (try dsimp only at hSw); go_simp; try with_reducible rfl⟩
        try simp only [Act.put, List.setIfInBounds_toArray, List.set_cons_zero, List.set_cons_succ]
        refine wpAnyH_done (by kernel_rfl) ?_ _
        clear hHeld
        go_wp2_with fail
        go_roundw
        case rel => exact ⟨i + 1, by simp, by omega, HB.out.drew⟩
        case measure => (show n - (i + 1) < n - i; omega)
      · refine wp_region_held_drew (S := fun W => W.cell? ⟨b1, o1 + i, none⟩ = some (.bool true) ∧ W.cell? ⟨b2, o2 + i, none⟩ = some (.bool true)) (by kernel_rfl) ⟨x1, x2⟩ (fun hHeld => ?_)
        refine wpAnyH_take (i := 0) (oi := ?tko10) (v := ?tkv10) ?tkh10 (by kernel_rfl) (by kernel_rfl) (by kernel_rfl) ?tkq10 ?tky10 hHeld ?tkr10
        case tkh10 => (simp only [List.getElem?_toArray, List.getElem?_cons_zero]; rfl)
        case tkq10 => exact fun _ _ _ h => h
        case tky10 => exact Or.inl ⟨by rfl, by intro wSw hSw; (try dsimp only at hSw); go_simp; try with_reducible rfl⟩
        try simp only [Act.put, List.setIfInBounds_toArray, List.set_cons_zero, List.set_cons_succ]
        refine wpAnyH_take (i := 1) (oi := ?tko11) (v := ?tkv11) ?tkh11 (by kernel_rfl) (by kernel_rfl) (by kernel_rfl) ?tkq11 ?tky11 hHeld ?tkr11
        case tkh11 => (simp only [List.getElem?_toArray, List.getElem?_cons_succ, List.getElem?_cons_zero]; rfl)
        case tkq11 => exact fun _ _ _ h => h
        case tky11 => exact Or.inl ⟨by rfl, by intro wSw hSw; (try dsimp only at hSw); go_simp; try with_reducible rfl⟩
        try simp only [Act.put, List.setIfInBounds_toArray, List.set_cons_zero, List.set_cons_succ]
        refine wpAnyH_take (i := 2) (oi := ?tko12) (v := ?tkv12) ?tkh12 (by kernel_rfl) (by kernel_rfl) (by kernel_rfl) ?tkq12 ?tky12 hHeld ?tkr12
        case tkh12 => (simp only [List.getElem?_toArray, List.getElem?_cons_succ, List.getElem?_cons_zero]; rfl)
        case tkq12 => exact fun _ _ _ h => h
        case tky12 => exact Or.inl ⟨by rfl, by intro wSw hSw; (try dsimp only at hSw); go_simp; try with_reducible rfl⟩
        try simp only [Act.put, List.setIfInBounds_toArray, List.set_cons_zero, List.set_cons_succ]
        refine wpAnyH_take (i := 3) (oi := ?tko13) (v := ?tkv13) ?tkh13 (by kernel_rfl) (by kernel_rfl) (by kernel_rfl) ?tkq13 ?tky13 hHeld ?tkr13
        case tkh13 => (simp only [List.getElem?_toArray, List.getElem?_cons_succ, List.getElem?_cons_zero]; rfl)
        case tkq13 => exact fun _ _ _ h => h
        case tky13 => exact Or.inl ⟨by rfl, by intro wSw hSw; (try dsimp only at hSw); go_simp; try with_reducible rfl⟩
        try simp only [Act.put, List.setIfInBounds_toArray, List.set_cons_zero, List.set_cons_succ]
        refine wpAnyH_take (i := 4) (oi := ?tko14) (v := ?tkv14) ?tkh14 (by kernel_rfl) (by kernel_rfl) (by kernel_rfl) ?tkq14 ?tky14 hHeld ?tkr14
        case tkh14 => (simp only [List.getElem?_toArray, List.getElem?_cons_succ, List.getElem?_cons_zero]; rfl)
        case tkq14 => exact fun _ _ _ h => h
        case tky14 => exact Or.inl ⟨by rfl, by intro wSw hSw; (try dsimp only at hSw); go_simp; try with_reducible rfl⟩
        try simp only [Act.put, List.setIfInBounds_toArray, List.set_cons_zero, List.set_cons_succ]
        refine wpAnyH_take (i := 5) (oi := ?tko15) (v := ?tkv15) ?tkh15 (by kernel_rfl) (by kernel_rfl) (by kernel_rfl) ?tkq15 ?tky15 hHeld ?tkr15
        case tkh15 => (simp only [List.getElem?_toArray, List.getElem?_cons_succ, List.getElem?_cons_zero]; rfl)
        case tkq15 => exact fun _ _ _ h => h
        case tky15 => exact Or.inl ⟨by rfl, by intro wSw hSw; (try dsimp only at hSw); go_simp; try with_reducible rfl⟩
        try simp only [Act.put, List.setIfInBounds_toArray, List.set_cons_zero, List.set_cons_succ]
        refine wpAnyH_take (i := 6) (oi := ?tko16) (v := ?tkv16) ?tkh16 (by kernel_rfl) (by kernel_rfl) (by kernel_rfl) ?tkq16 ?tky16 hHeld ?tkr16
        case tkh16 => (simp only [List.getElem?_toArray, List.getElem?_cons_succ, List.getElem?_cons_zero]; rfl)
        case tkq16 => exact fun _ _ _ h => h
        case tky16 => exact Or.inl ⟨by rfl, by intro wSw hSw; (try dsimp only at hSw); go_simp; try with_reducible rfl⟩
        try simp only [Act.put, List.setIfInBounds_toArray, List.set_cons_zero, List.set_cons_succ]
        refine wpAnyH_take (i := 7) (oi := ?tko17) (v := ?tkv17) ?tkh17 (by kernel_rfl) (by kernel_rfl) (by kernel_rfl) ?tkq17 ?tky17 hHeld ?tkr17
        case tkh17 => (simp only [List.getElem?_toArray, List.getElem?_cons_succ, List.getElem?_cons_zero]; rfl)
        case tkq17 => exact fun _ _ _ h => h
        case tky17 => exact Or.inl ⟨by rfl, by intro wSw hSw; (try dsimp only at hSw); go_simp; try with_reducible rfl⟩
        try simp only [Act.put, List.setIfInBounds_toArray, List.set_cons_zero, List.set_cons_succ]
        refine wpAnyH_take (i := 8) (oi := ?tko18) (v := ?tkv18) ?tkh18 (by kernel_rfl) (by kernel_rfl) (by kernel_rfl) ?tkq18 ?tky18 hHeld ?tkr18
        case tkh18 => (simp only [List.getElem?_toArray, List.getElem?_cons_succ, List.getElem?_cons_zero]; rfl)
        case tkq18 => exact fun _ _ _ h => h
        case tky18 => exact Or.inl ⟨by rfl, by intro wSw hSw; (try dsimp only at hSw); go_simp; try with_reducible rfl⟩
        try simp only [Act.put, List.setIfInBounds_toArray, List.set_cons_zero, List.set_cons_succ]
        refine wpAnyH_done (by kernel_rfl) ?_ _
        clear hHeld
        go_wp2_with fail
        go_roundw
        case rel => exact ⟨i + 1, by simp, by omega, HB.out.drew⟩
        case measure => (show n - (i + 1) < n - i; omega)
    · clear hB
      go_wp2_with fail
      go_ret
      exact ⟨rfl, HB.out⟩
set_option maxHeartbeats 4000000 in
set_option maxRecDepth 100000 in
theorem lawSame (A B : Option Addr) (n n2 c1 c2 : Nat) (m : Tb) (w : World) (h1 : RdT w A n m) (h2 : RdT w B n m) (h3 : n2 = n) (hc1 : n ≤ c1) (hc2 : n ≤ c2) (hn : n ≤ 1000000) :
    Calls Try.prog 16 #[.slice A n c1, .slice B n2 c2] w fun e w' => e = .returned (.int .i64 1) ∧ Below w.heap.size w w' := by
  subst h3
  have H1 := Lib.hid h1
  have H2 := Lib.hid h2
  have HB0 := Lib.hid (Below.refl w.heap.size w)
  clear h1 h2
  go_enter Try.func16, Try.ntmps16
  go_wp2_with fail
  go_loopw [5, 13] (fun _ v wr => ∃ i : Nat, v = .int .i64 (i : Nat) ∧ i ≤ n2 ∧ Below w.heap.size w wr) (fun _ v _ => n2 - (intOf v).toNat)
  case atStart => exact ⟨0, rfl, Nat.zero_le _, HB0.out⟩
  case round =>
    obtain ⟨i, rfl, hin, hB⟩ := hrel
    have HB := Lib.hid hB
    by_cases hlt : i < n2
    · obtain ⟨b1, o1, rfl, r1⟩ := (H1.out.below hB) (by omega)
      obtain ⟨K1, p1, q1, x1, x2, x3, x4⟩ := r1 i hlt
      obtain ⟨b2, o2, rfl, r2⟩ := (H2.out.below hB) (by omega)
      obtain ⟨K2, p2, q2, y1, y2, y3, y4⟩ := r2 i hlt
      have HE := Lib.hid (eqBools K1 p1 q1 K2 p2 q2 n2 (m i) wr.drew hn x4 y4)
      clear hB r1 r2 x4 y4
      go_wp2_with fail
      refine wp_region_held_drew (S := fun W => W.cell? ⟨b1, o1 + i, none⟩ = some (.slice (some ⟨K1, p1, none⟩) n2 q1) ∧ W.cell? ⟨b2, o2 + i, none⟩ = some (.slice (some ⟨K2, p2, none⟩) n2 q2)) (by kernel_rfl) ⟨x1, y1⟩ (fun hHeld => ?_)
      refine wpAnyH_take (i := 0) (oi := ?tko19) (v := ?tkv19) ?tkh19 (by kernel_rfl) (by kernel_rfl) (by kernel_rfl) ?tkq19 ?tky19 hHeld ?tkr19
      case tkh19 => (simp only [List.getElem?_toArray, List.getElem?_cons_zero]; rfl)
      case tkq19 => exact fun _ _ _ h => h
      case tky19 => exact Or.inl ⟨by rfl, by intro wSw hSw; (try dsimp only at hSw); go_simp; try with_reducible rfl⟩
      try simp only [Act.put, List.setIfInBounds_toArray, List.set_cons_zero, List.set_cons_succ]
      refine wpAnyH_take (i := 1) (oi := ?tko20) (v := ?tkv20) ?tkh20 (by kernel_rfl) (by kernel_rfl) (by kernel_rfl) ?tkq20 ?tky20 hHeld ?tkr20
      case tkh20 => (simp only [List.getElem?_toArray, List.getElem?_cons_succ, List.getElem?_cons_zero]; rfl)
      case tkq20 => exact fun _ _ _ h => h
      case tky20 => exact Or.inl ⟨by rfl, by intro wSw hSw; (try dsimp only at hSw); go_simp; try with_reducible rfl⟩
      try simp only [Act.put, List.setIfInBounds_toArray, List.set_cons_zero, List.set_cons_succ]
      refine wpAnyH_take (i := 2) (oi := ?tko21) (v := ?tkv21) ?tkh21 (by kernel_rfl) (by kernel_rfl) (by kernel_rfl) ?tkq21 ?tky21 hHeld ?tkr21
      case tkh21 => (simp only [List.getElem?_toArray, List.getElem?_cons_succ, List.getElem?_cons_zero]; rfl)
      case tkq21 => exact fun _ _ _ h => h
      case tky21 => exact Or.inl ⟨by rfl, by intro wSw hSw; (try dsimp only at hSw); go_simp; try with_reducible rfl⟩
      try simp only [Act.put, List.setIfInBounds_toArray, List.set_cons_zero, List.set_cons_succ]
      refine wpAnyH_take (i := 3) (oi := ?tko22) (v := ?tkv22) ?tkh22 (by kernel_rfl) (by kernel_rfl) (by kernel_rfl) ?tkq22 ?tky22 hHeld ?tkr22
      case tkh22 => (simp only [List.getElem?_toArray, List.getElem?_cons_succ, List.getElem?_cons_zero]; rfl)
      case tkq22 => exact fun _ _ _ h => h
      case tky22 => exact Or.inl ⟨by rfl, by intro wSw hSw; (try dsimp only at hSw); go_simp; try with_reducible rfl⟩
      try simp only [Act.put, List.setIfInBounds_toArray, List.set_cons_zero, List.set_cons_succ]
      refine wpAnyH_take (i := 4) (oi := ?tko23) (v := ?tkv23) ?tkh23 (by kernel_rfl) (by kernel_rfl) (by kernel_rfl) ?tkq23 ?tky23 hHeld ?tkr23
      case tkh23 => (simp only [List.getElem?_toArray, List.getElem?_cons_succ, List.getElem?_cons_zero]; rfl)
      case tkq23 => exact fun _ _ _ h => h
      case tky23 => exact Or.inl ⟨by rfl, by intro wSw hSw; (try dsimp only at hSw); go_simp; try with_reducible rfl⟩
      try simp only [Act.put, List.setIfInBounds_toArray, List.set_cons_zero, List.set_cons_succ]
      refine wpAnyH_take (i := 5) (oi := ?tko24) (v := ?tkv24) ?tkh24 (by kernel_rfl) (by kernel_rfl) (by kernel_rfl) ?tkq24 ?tky24 hHeld ?tkr24
      case tkh24 => (simp only [List.getElem?_toArray, List.getElem?_cons_succ, List.getElem?_cons_zero]; rfl)
      case tkq24 => exact fun _ _ _ h => h
      case tky24 => exact Or.inl ⟨by rfl, by intro wSw hSw; (try dsimp only at hSw); go_simp; try with_reducible rfl⟩
      try simp only [Act.put, List.setIfInBounds_toArray, List.set_cons_zero, List.set_cons_succ]
      refine wpAnyH_take (i := 6) (oi := ?tko25) (v := ?tkv25) ?tkh25 (by kernel_rfl) (by kernel_rfl) (by kernel_rfl) ?tkq25 ?tky25 hHeld ?tkr25
      case tkh25 => (simp only [List.getElem?_toArray, List.getElem?_cons_succ, List.getElem?_cons_zero]; rfl)
      case tkq25 => exact fun _ _ _ h => h
      case tky25 => exact Or.inl ⟨by rfl, by intro wSw hSw; (try dsimp only at hSw); go_simp; try with_reducible rfl⟩
      try simp only [Act.put, List.setIfInBounds_toArray, List.set_cons_zero, List.set_cons_succ]
      refine wpAnyH_take (i := 7) (oi := ?tko26) (v := ?tkv26) ?tkh26 (by kernel_rfl) (by kernel_rfl) (by kernel_rfl) ?tkq26 ?tky26 hHeld ?tkr26
      case tkh26 => (simp only [List.getElem?_toArray, List.getElem?_cons_succ, List.getElem?_cons_zero]; rfl)
      case tkq26 => exact fun _ _ _ h => h
      case tky26 => exact Or.inl ⟨by rfl, by intro wSw hSw; (try dsimp only at hSw); go_simp; try with_reducible rfl⟩
      try simp only [Act.put, List.setIfInBounds_toArray, List.set_cons_zero, List.set_cons_succ]
      refine wpAnyH_ready (rs := [8]) (by kernel_rfl) (by simp) ?_
      refine AllReadyH.cons (o := ?tko27) ?tkh27 (fun Kt27 hKt27 => ?_) AllReadyH.nil
      case tkh27 => (simp only [List.getElem?_toArray, List.getElem?_cons_succ, List.getElem?_cons_zero]; rfl)
      go_simp
      (go_at_call 26; refine HE.out.mono ?_; rintro e w3 ⟨rfl, hB3⟩; have HB3 := Lib.hid hB3; clear hB3)
      refine hKt27.out _ _ ?_ (fun hHt27 => ?_)
      · (exact ⟨below_cell HB3.out x1, below_cell HB3.out y1⟩)
      clear hKt27 Kt27 hHeld
      have hHeld := hHt27
      clear hHt27
      try simp only [Act.put, List.setIfInBounds_toArray, List.set_cons_zero, List.set_cons_succ]
      refine wpAnyH_take (i := 9) (oi := ?tko28) (v := ?tkv28) ?tkh28 (by kernel_rfl) (by kernel_rfl) (by kernel_rfl) ?tkq28 ?tky28 hHeld ?tkr28
      case tkh28 => (simp only [List.getElem?_toArray, List.getElem?_cons_succ, List.getElem?_cons_zero]; rfl)
      case tkq28 => exact fun _ _ _ h => h
      case tky28 => exact Or.inl ⟨by rfl, by intro wSw hSw; (try dsimp only at hSw); go_simp; try with_reducible rfl⟩
      try simp only [Act.put, List.setIfInBounds_toArray, List.set_cons_zero, List.set_cons_succ]
      refine wpAnyH_done (by kernel_rfl) ?_ _
      have HBN := Lib.hid (HB.out.drew.trans (HB3.out.mono HB.out.size))
      clear hHeld
      go_wp2_with fail
      go_roundw
      case rel => exact ⟨i + 1, by simp, by omega, HBN.out⟩
      case measure => (show n2 - (i + 1) < n2 - i; omega)
    · clear hB
      go_wp2_with fail
      go_ret
      exact ⟨rfl, HB.out⟩
end Go.Proofs.Ytcpmcgbjmncalaa.Paths

namespace Go.Proofs.Ytcpmcgbjmncalaa.Paths
open Go.RowKit Go.Shelf Go.Proofs.Ytcpmcgbjmncalaa.Ints Go.Proofs.Ytcpmcgbjmncalaa.Mem Go.Proofs.Ytcpmcgbjmncalaa.Src Go.Proofs.Ytcpmcgbjmncalaa.Tree Go.Proofs.Ytcpmcgbjmncalaa.BitsWalks Go.Proofs.Ytcpmcgbjmncalaa.RdW Go.Proofs.Ytcpmcgbjmncalaa.Words

theorem gotR_reads {w : World} {reg : Bool} {nv : Nat} {m : Tb} {e : Ending} {w' : World} (h : GotR w reg nv m e w') (hnv : nv ≤ maxLen) : ∃ A n c, e = .returned (.slice A n c) ∧ n = (if reg = true then nv else 0) ∧ RdT w' A n m ∧ n ≤ c ∧ Below w.heap.size w w' := by
  by_cases hr : reg = true
  · rw [gotR_yes hr] at h
    obtain ⟨B, R, rfl, hT, hb⟩ := h
    exact ⟨_, _, _, rfl, (if_pos hr).symm, hT.reads hnv, Nat.le_refl _, hb⟩
  · rw [gotR_no hr] at h
    obtain ⟨rfl, hb⟩ := h
    exact ⟨none, 0, 0, rfl, (if_neg hr).symm, fun h0 => absurd h0 (by decide), Nat.le_refl _, hb⟩
set_option maxHeartbeats 8000000 in
set_option maxRecDepth 100000 in
theorem lawAll (A : Option Addr) (n c : Nat) (l : List Nd) (Z : Option Addr) (nz cz : Nat) (zs : List Int) (V : Option Addr) (nv cv : Nat) (vs : Nat → List Nat) (w : World) (hl : l.length = n) (hnc : n ≤ c) (h : Nodes Tree.Any w A l) (hz : Rd .u16 w Z nz zs) (hzm : nz ≤ maxLen) (hv : RdV w V nv vs) :
    Calls Try.prog 4 #[.slice A n c, .slice Z nz cz, .slice V nv cv] w fun e w' => e = .returned (.bool true) ∧ Below w.heap.size w w' := by
  by_cases hn : n ≤ 200
  rotate_left
  · have hni : (200 : Int) < ((n : Nat) : Int) := by omega
    go_enter Try.func4, Try.ntmps4
    go_wp2_with (go_at_call 8; refine (lawAwake _).mono ?_; rintro e w1 ⟨rfl, hb1⟩)
    go_ret
    exact ⟨rfl, hb1⟩
  have hni : ¬ (200 : Int) < ((n : Nat) : Int) := by omega
  by_cases hnv : nv ≤ 12
  rotate_left
  · have hnvi : (12 : Int) < ((nv : Nat) : Int) := by omega
    go_enter Try.func4, Try.ntmps4
    go_wp2_with (go_at_call 8; refine (lawAwake _).mono ?_; rintro e w1 ⟨rfl, hb1⟩)
    go_ret
    exact ⟨rfl, hb1⟩
  have hnvi : ¬ (12 : Int) < ((nv : Nat) : Int) := by omega
  have q63 : maxLen = 9223372036854775807 := rfl
  have HG := Lib.hid (reg_ok false zs (fun z hzz => wf_u16 (hz.all z hzz)))
  have HREG := Lib.hid (lawReg Z nz cz zs false w hz hzm)
  have HN := Lib.hid (show n ≤ 1048576 by omega)
  have HV := Lib.hid (show nv ≤ 12 ∧ nv ≤ maxLen by omega)
  have HNO := Lib.hid h
  have HVS := Lib.hid hv
  obtain ⟨r, hr⟩ : ∃ r, regMk false zs = r := ⟨_, rfl⟩
  rw [hr] at HG HREG
  clear h hz hr hn hv hnv q63
  go_enter Try.func4, Try.ntmps4
  go_wp2_with fail
  refine HREG.out.mono ?_
  rintro e w1 ⟨Ar, cr, rfl, hNr, hcr, -, hb1⟩
  have HB1 := Lib.hid hb1
  have HR1 := Lib.hid hNr
  clear hb1 hNr
  go_wp2_with fail
  refine (landReach A V n c nv cv l vs w1 hl hnc HN.out (HNO.out.below HB1.out) (HVS.out.below HB1.out) (Nat.le_trans HV.out.1 (by decide))).mono ?_
  rintro e w2 hgot
  obtain ⟨A2, n2, c2, rfl, g2, t2, m2, b2⟩ := gotR_reads hgot HV.out.2
  have HB2 := Lib.hid (HB1.out.trans (b2.mono HB1.out.size))
  have HR2 := Lib.hid (HR1.out.below b2)
  have HT2 := Lib.hid t2
  have HP2 := Lib.hid (And.intro m2 b2)
  have HE2 := Lib.hid g2
  clear hgot t2 m2 b2 g2
  go_wp2_with fail
  refine (refReach A V n c nv cv l vs w2 hl hnc HN.out (HNO.out.below HB2.out) (HVS.out.below HB2.out) (Nat.le_trans HV.out.1 (by decide))).mono ?_
  rintro e w3 hgot
  obtain ⟨A3, n3, c3, rfl, g3, t3, m3, b3⟩ := gotR_reads hgot HV.out.2
  have HB3 := Lib.hid (HB2.out.trans (b3.mono HB2.out.size))
  have HR3 := Lib.hid (HR2.out.below b3)
  have HT3 := Lib.hid t3
  have HP3 := Lib.hid (And.intro m3 b3)
  have HE3 := Lib.hid g3
  clear hgot t3 m3 b3 g3
  go_wp2_with fail
  refine (lawSame A2 A3 n2 n3 c2 c3 _ w3 (HT2.out.below HP3.out.2) (by have := HT3.out; rw [HE3.out] at this; rw [HE2.out]; exact this) (HE3.out.trans HE2.out.symm) HP2.out.1 (by have := HP3.out.1; rw [HE3.out] at this; rw [HE2.out]; exact this) (by have := HV.out.1; rw [HE2.out]; split <;> omega)).mono ?_
  rintro e w4 ⟨rfl, b4⟩
  have HB4 := Lib.hid (HB3.out.trans (b4.mono HB3.out.size))
  have HR4 := Lib.hid (HR3.out.below b4)
  clear b4
  go_wp2_with fail
  refine (landReach Ar V r.length cr nv cv r vs w4 rfl hcr (Nat.le_trans HG.out.2 (by decide)) HR4.out (HVS.out.below HB4.out) (Nat.le_trans HV.out.1 (by decide))).mono ?_
  rintro e w5 hgot
  obtain ⟨A5, n5, c5, rfl, g5, t5, m5, b5⟩ := gotR_reads hgot HV.out.2
  have HB5 := Lib.hid (HB4.out.trans (b5.mono HB4.out.size))
  have HR5 := Lib.hid (HR4.out.below b5)
  have HT5 := Lib.hid t5
  have HP5 := Lib.hid (And.intro m5 b5)
  have HE5 := Lib.hid g5
  clear hgot t5 m5 b5 g5
  go_wp2_with fail
  refine (refReach Ar V r.length cr nv cv r vs w5 rfl hcr (Nat.le_trans HG.out.2 (by decide)) HR5.out (HVS.out.below HB5.out) (Nat.le_trans HV.out.1 (by decide))).mono ?_
  rintro e w6 hgot
  obtain ⟨A6, n6, c6, rfl, g6, t6, m6, b6⟩ := gotR_reads hgot HV.out.2
  have HB6 := Lib.hid (HB5.out.trans (b6.mono HB5.out.size))
  have HR6 := Lib.hid (HR5.out.below b6)
  have HT6 := Lib.hid t6
  have HP6 := Lib.hid (And.intro m6 b6)
  have HE6 := Lib.hid g6
  clear hgot t6 m6 b6 g6
  go_wp2_with fail
  refine (lawSame A5 A6 n5 n6 c5 c6 _ w6 (HT5.out.below HP6.out.2) (by have := HT6.out; rw [HE6.out] at this; rw [HE5.out]; exact this) (HE6.out.trans HE5.out.symm) HP5.out.1 (by have := HP6.out.1; rw [HE6.out] at this; rw [HE5.out]; exact this) (by have := HV.out.1; rw [HE5.out]; split <;> omega)).mono ?_
  rintro e w7 ⟨rfl, b7⟩
  have HB7 := Lib.hid (HB6.out.trans (b7.mono HB6.out.size))
  have HR7 := Lib.hid (HR6.out.below b7)
  clear b7
  go_wp2_with (go_at_call 8; refine (lawAwake _).mono ?_; rintro e w8 ⟨rfl, b8⟩)
  go_ret
  exact ⟨rfl, HB7.out.trans (b8.mono HB7.out.size)⟩
end Go.Proofs.Ytcpmcgbjmncalaa.Paths

namespace Go.Proofs.Ytcpmcgbjmncalaa.Paths
open Go.RowKit Go.ChangeShapes Go.WideShapes Go.Deep Go.Proofs.Ytcpmcgbjmncalaa.Ints Go.Proofs.Ytcpmcgbjmncalaa.RdW

section
variable {H : Type} {enc : TypeId × Value → H} {w : World}
set_option maxRecDepth 100000 in
/-- A list of lists of words that came in. -/
theorem vals_of {len cap : Nat} {A : Option Addr} {d : DataW H} {p : List MemPlace} (h : DataW.Trod enc Try.prog w 0 (fun _ => true) true 30 (.slice A len cap) d p) :
    ∃ vs : Nat → List Nat, RdV w A len vs ∧ len ≤ cap ∧ cap ≤ maxLen := by
  obtain ⟨fuel, hf⟩ := h
  rcases open_slice Try.underlying30 hf with ⟨hcs, -⟩ | ⟨a, l', c', m, n, D, Pl, hcs, -, hl, hm, hmm, -, hi⟩
  · simp [Value.cells] at hcs
    obtain ⟨rfl, rfl, rfl⟩ := hcs
    exact ⟨fun _ => [], fun h0 => by simp at h0, Nat.le_refl _, by decide⟩
  · simp [Value.cells] at hcs
    obtain ⟨rfl, rfl, rfl⟩ := hcs
    have hm' : m = cap := by simpa using hmm
    have cellsWs : Try.prog.cellsOf 35 = 1 := by kernel_rfl
    have cellsW : Try.prog.cellsOf 62 = 1 := by kernel_rfl
    have hone : ∀ i, i < len → ∃ xs : List Nat, ∃ b off, a = ⟨b, off, none⟩ ∧ ∃ K q c, w.cell? ⟨b, off + i, none⟩ = some (.slice K q c) ∧ RdW w K q xs ∧ q ≤ c ∧ c ≤ maxLen := fun i hi' => by
      obtain ⟨cs', hc, ht⟩ := hi i (by omega)
      rw [cellsWs] at hc
      obtain ⟨-, hcl, hat⟩ := World.cells?_some hc
      obtain ⟨b, off, spot⟩ := a
      have h0 := hat 0 (by omega)
      have e : (((⟨b, off, spot⟩ : Addr).add (i * 1)).add 0) = (⟨b, off, spot⟩ : Addr).add i := by unfold Addr.add; split <;> split <;> simp_all
      rw [e] at h0
      obtain ⟨cs0, hc0', -⟩ := hi 0 (by omega)
      rw [cellsWs] at hc0'
      obtain ⟨-, hcl0, hat0⟩ := World.cells?_some hc0'
      have hz := hat0 0 (by omega)
      have hv0 : cs0[0]? = some (cs0[0]'(by omega)) := List.getElem?_eq_getElem (by omega)
      rw [hv0, add_add] at hz
      have hspot : spot = none := by simpa [Addr.add] using World.cell?_spot hz
      subst hspot
      have e2 : (⟨b, off, none⟩ : Addr).add i = ⟨b, off + i, none⟩ := by unfold Addr.add; simp
      rw [e2] at h0
      rcases open_ints Try.underlying35 Try.underlying62 cellsW ht with ⟨hcs, -⟩ | ⟨a2, len2, cap2, us, hcs, -, hl2, hm2, hz2, -, hcell, hwf⟩
      · rw [hcs] at h0
        exact ⟨[], b, off, rfl, none, 0, 0, h0, RdW.nil _ _, Nat.le_refl _, by decide⟩
      · rw [hcs] at h0
        obtain ⟨hr, hl', hm'⟩ := rd_of (k := .u64) (w := w) (A := some a2) (zs := us) (len := len2) (cap := cap2) (Or.inr ⟨a2, rfl, hl2, hm2, by simpa using hz2, hcell, hwf⟩)
        obtain ⟨xs, hx⟩ := rdW_of hr
        exact ⟨xs, b, off, rfl, some a2, len2, cap2, h0, hx, hl', hm'⟩
    refine ⟨fun i => if h : i < len then Classical.choose (hone i h) else [], fun h0 => ?_, hl, hm⟩
    obtain ⟨-, b, off, rfl, -⟩ := hone 0 h0
    refine ⟨b, off, rfl, fun j hj => ?_⟩
    obtain ⟨b', off', e, hn⟩ := Classical.choose_spec (hone j hj)
    injection e with e1 e2
    subst e1; subst e2
    simp only [dif_pos hj]
    exact hn
end
end Go.Proofs.Ytcpmcgbjmncalaa.Paths
