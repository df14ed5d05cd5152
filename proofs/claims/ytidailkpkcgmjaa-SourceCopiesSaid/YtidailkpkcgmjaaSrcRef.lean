/-
  The walks of the reference's New and Read (a source of bytes). By an AI agent.
-/
import Derived.Test.YtidailkpkcgmjaaSrcPlain
import Derived.Deep.RegionHeld3
import Derived.Lib.MinMax
namespace Go.Proofs.Ytidailkpkcgmjaa.Src
open Go.RowKit Go.Proofs.Ytidailkpkcgmjaa.Ints Go.Proofs.Ytidailkpkcgmjaa.Mem

set_option maxHeartbeats 4000000 in
set_option maxRecDepth 100000 in
theorem refNew (A : Option Addr) (n c : Nat) (bs : List Int) (B : Option Addr) (m d : Nat) (sc : List Int) (fault : Int) (w : World) (hnc : n ≤ c) (hc : c ≤ maxLen) (h : Rd .u8 w A n bs) (hm : m ≤ maxLen) (hs : Rd .i64 w B m sc) (S : Nat → Prop) (hSA : ∀ a, A = some a → 0 < n → S a.block) (hSB : ∀ a, B = some a → 0 < m → S a.block) (hSg : ¬ S w.heap.size) :
    Calls Try.prog 8 #[.slice A n c, .slice B m d, .int .i64 fault] w fun e w' => e = .returned (.pointer (some ⟨w.heap.size, 0, none⟩)) ∧ Src4 S w' w.heap.size bs sc (faultP n fault) 0 ∧ Below w.heap.size w w' := by
  have q63 : maxLen = 9223372036854775807 := rfl
  have hbl := h.len
  have hsl := hs.len
  have main : ∀ f : Nat, f = faultP n fault → Src4 S (w.alloc (.cells #[.slice A n c, .slice B m d, .int .i64 (f : Nat), .int .i64 0] 36)) w.heap.size bs sc (faultP n fault) 0 := fun f hf => by
    subst hf
    subst hbl; subst hsl
    exact ⟨⟨A, c, B, d, Blk.new _ _ _ _ rfl, h.alloc _, hnc, hc, hs.alloc _, hm, hSA, hSB⟩, hSg, fault_le _ _⟩
  have HM := Lib.hid main
  have HB := Lib.hid (fun o => (Below.refl w.heap.size w).alloc (Nat.le_refl _) o)
  clear main h hs
  by_cases h1 : fault < 0 ∨ (n : Int) < fault
  · have hf : n = faultP n fault := by unfold faultP; rw [if_pos h1]
    have HF := Lib.hid hf
    clear hf
    rcases h1 with h1 | h1
    · go_enter Try.func8, Try.ntmps8
      go_wp2
      go_ret
      exact ⟨rfl, HM.out n HF.out, HB.out _⟩
    · have h2 : ¬ fault < 0 := by omega
      have h3 : fault > (n : Int) := h1
      go_enter Try.func8, Try.ntmps8
      go_wp2
      go_ret
      exact ⟨rfl, HM.out n HF.out, HB.out _⟩
  · obtain ⟨f, rfl⟩ : ∃ f : Nat, fault = (f : Int) := Int.eq_ofNat_of_zero_le (by omega)
    have h2 : ¬ (f : Int) < 0 := by omega
    have h3 : ¬ (f : Int) > (n : Int) := by omega
    have hf : f = faultP n (f : Int) := by unfold faultP; rw [if_neg h1]; omega
    have HF := Lib.hid hf
    clear hf h1
    go_enter Try.func8, Try.ntmps8
    go_wp2
    go_ret
    exact ⟨rfl, HM.out f HF.out, HB.out _⟩

set_option maxHeartbeats 8000000 in
set_option maxRecDepth 100000 in
theorem refRead (S : Nat → Prop) (g : Nat) (bs sc : List Int) (f N : Nat) (p most : Int) (w : World) (h : Src4 S w g bs sc f N) (hN : N < 9223372036854775807) (hp : small64 p) (hmo : small64 most) :
    Calls Try.prog 10 #[.pointer (some ⟨g, 0, none⟩), .int .i64 p, .int .i64 most] w fun e w' => ∃ A c, e = .returned (.tuple #[.slice A (readL bs f sc N p most).length c, .int .i64 (readE bs.length f p most : Nat)]) ∧
      Rd .u8 w' A (readL bs f sc N p most).length (readL bs f sc N p most) ∧ (readL bs f sc N p most).length ≤ c ∧ c ≤ maxLen ∧ (∀ a, A = some a → S a.block) ∧ Src4 S w' g bs sc f (readN bs.length f N p most) ∧ w.grownBy w' (some g) := by
  have q63 : maxLen = 9223372036854775807 := rfl
  obtain ⟨A, c, B, d, hb, hrd, hnc, hcm, hsc, hscm, hSA, hSB⟩ := h.ex
  have hle := h.le
  obtain ⟨hp1, hp2⟩ := hp
  obtain ⟨hm1, hm2⟩ := hmo
  have HS := Lib.hid h
  have HRD := Lib.hid hrd
  have HSC := Lib.hid hsc
  have x0 := hb.cell 0 rfl
  have x1 := hb.cell 1 rfl
  have x2 := hb.cell 2 rfl
  have x3 := hb.cell 3 rfl
  have xf := hb.fz 3 rfl
  have HSA := Lib.hid hSA
  have HSB := Lib.hid hSB
  have HNE := Lib.hid h.ne
  obtain ⟨n, hn⟩ : ∃ n, bs.length = n := ⟨_, rfl⟩
  obtain ⟨m, hm⟩ : ∃ m, sc.length = m := ⟨_, rfl⟩
  have HN := Lib.hid hn
  have HM := Lib.hid hm
  rw [hn] at hle hnc x0 ⊢
  rw [hm] at hscm x1
  rw [hn, hm] at hb
  have HB := Lib.hid hb
  have HF := Lib.hid (show ∀ e : Nat, e ≠ 0 → readE n f p most = e → ∃ A c, Ending.returned (.tuple #[.slice none 0 0, .int .i64 (e : Nat)]) = .returned (.tuple #[.slice A (readL bs f sc N p most).length c, .int .i64 (readE n f p most : Nat)]) ∧
      Rd .u8 w A (readL bs f sc N p most).length (readL bs f sc N p most) ∧ (readL bs f sc N p most).length ≤ c ∧ c ≤ maxLen ∧ (∀ a, A = some a → S a.block) ∧ Src4 S w g bs sc f (readN n f N p most) ∧ w.grownBy w (some g) from fun e he hr => by
    have hl : readL bs f sc N p most = [] := readL_none (by rw [hn, hr]; exact he)
    have hnn : readN n f N p most = N := by unfold readN; rw [hr, if_neg he]
    rw [hl, hr, hnn]
    exact ⟨none, 0, rfl, Rd.nil _ _ _, Nat.le_refl _, by decide, (fun a e => by cases e), h, World.grownBy.refl w _⟩)
  clear hb hrd hsc hSA hSB hn hm h
  by_cases h1 : p < 0
  · have hr : readE n f p most = 1 := by unfold readE; rw [if_pos (Or.inl h1)]
    have HR := Lib.hid hr
    clear hr
    go_enter Try.func10, Try.ntmps10
    go_wp2
    refine bodyPost_ret (v := .tuple #[.slice none 0 0, .int .i64 1]) (by simp [results, Try.results10, go_sem]) rfl ?_
    exact HF.out 1 (by decide) HR.out
  by_cases h2 : most < 1
  · have hr : readE n f p most = 1 := by unfold readE; rw [if_pos (Or.inr h2)]
    have HR := Lib.hid hr
    clear hr
    go_enter Try.func10, Try.ntmps10
    go_wp2
    refine bodyPost_ret (v := .tuple #[.slice none 0 0, .int .i64 1]) (by simp [results, Try.results10, go_sem]) rfl ?_
    exact HF.out 1 (by decide) HR.out
  have h3 : ¬ (p < 0 ∨ most < 1) := by omega
  by_cases h4 : (n : Int) ≤ p
  · have hr : readE n f p most = 13 := by unfold readE; rw [if_neg h3, if_pos h4]
    have h4' : p ≥ (n : Int) := h4
    have HR := Lib.hid hr
    clear hr h4 h3
    go_enter Try.func10, Try.ntmps10
    go_wp2
    refine bodyPost_ret (v := .tuple #[.slice none 0 0, .int .i64 13]) (by simp [results, Try.results10, go_sem]) rfl ?_
    exact HF.out 13 (by decide) HR.out
  have h4' : ¬ p ≥ (n : Int) := h4
  by_cases h5 : (f : Int) ≤ p
  · have hr : readE n f p most = 10 := by unfold readE; rw [if_neg h3, if_neg h4, if_pos h5]
    have h5' : p ≥ (f : Int) := h5
    have HR := Lib.hid hr
    clear hr h4 h3 h5
    go_enter Try.func10, Try.ntmps10
    go_wp2
    refine bodyPost_ret (v := .tuple #[.slice none 0 0, .int .i64 10]) (by simp [results, Try.results10, go_sem]) rfl ?_
    exact HF.out 10 (by decide) HR.out
  have h5' : ¬ p ≥ (f : Int) := h5
  have hr : readE n f p most = 0 := by unfold readE; rw [if_neg h3, if_neg h4, if_neg h5]
  obtain ⟨k1, k2, k3, k4⟩ := readK_bd sc N hle hr
  have hl := readL_len sc N (bs := bs) (by rw [HN.out]; exact hle) (by rw [HN.out]; exact hr)
  obtain ⟨q, rfl⟩ : ∃ q : Nat, p = (q : Int) := Int.eq_ofNat_of_zero_le (by omega)
  obtain ⟨K, hK⟩ : ∃ K, readK f sc N (q : Int) most = K := ⟨_, rfl⟩
  rw [hK] at k1 k2 k3 k4 hl
  have hnn : readN n f N (q : Int) most = N + 1 := by unfold readN; rw [if_pos hr]
  have HR := Lib.hid hr
  have HL := Lib.hid hl
  have HNN := Lib.hid hnn
  have HLL := Lib.hid (show readL bs f sc N (q : Int) most = (bs.drop q).take K by unfold readL; rw [HN.out, if_pos hr, hK, Int.toNat_natCast])
  have hqK : q + K ≤ n := by omega
  have hsl := fun W => slice_midB (P := Try.prog) 22 (by kernel_rfl) 1 (by kernel_rfl) A n c q (q + K) (by omega) (by omega) W
  rw [show q + K - q = K by omega] at hsl
  obtain ⟨A7, hA7⟩ : ∃ A7, fromAddr A c q 1 = A7 := ⟨_, rfl⟩
  have hsl2 : ∀ W, (Instr.slice 22 (.slice A n c) (some (.int .i64 (q : Int))) (some (.int .i64 ((q : Int) + (K : Int)))) none).run Try.prog W = .ok (.slice A7 K (c - q)) W := fun W => by
    have := hsl W
    rw [hA7, show ((q + K : Nat) : Int) = (q : Int) + (K : Int) by omega] at this
    exact this
  have hfr := rd_fromB (c := c) (p := q) (HN.out ▸ HRD.out) hnc (by omega) (by omega)
  rw [hA7] at hfr
  have HFR := Lib.hid hfr
  have HEND := Lib.hid (show ∀ W, Src4 S W g bs sc f (N + 1) → w.grownBy W (some g) → ∃ A' c', Ending.returned (.tuple #[.slice A7 K (c - q), .int .i64 0]) = .returned (.tuple #[.slice A' (readL bs f sc N (q : Int) most).length c', .int .i64 (readE n f (q : Int) most : Nat)]) ∧
      Rd .u8 W A' (readL bs f sc N (q : Int) most).length (readL bs f sc N (q : Int) most) ∧ (readL bs f sc N (q : Int) most).length ≤ c' ∧ c' ≤ maxLen ∧ (∀ a, A' = some a → S a.block) ∧ Src4 S W g bs sc f (readN n f N (q : Int) most) ∧ w.grownBy W (some g) from fun W hW hgr => by
    rw [HL.out, HR.out, HNN.out, HLL.out]
    have hS : ∀ a, A7 = some a → S a.block := fun a e => by
      obtain ⟨a', e1, e2⟩ := hfr.2 a e
      rw [e2]
      exact HSA.out a' e1 (by rw [HN.out]; omega)
    refine ⟨A7, c - q, rfl, ?_, by omega, by omega, hS, hW, hgr⟩
    exact rd_grown (hfr.1.take (m := K) (by omega)) hgr (fun a e _ e2 => by
      injection e2 with e2
      have := hS a e
      rw [e2] at this
      exact HNE.out this))
  have hmn : min most ((f : Int) - (q : Int)) ≤ most := by omega
  clear hr hl hnn hK hsl hA7 hfr h3 h4 h5 HF
  by_cases hNm : N < m
  · obtain ⟨bB, oB, hBe, hcell⟩ := HSC.out.cell (by rw [HM.out]; omega)
    have xz := hcell N (by rw [HM.out]; exact hNm)
    obtain ⟨z, hz⟩ : ∃ z, sc[N]?.getD 0 = z := ⟨_, rfl⟩
    rw [hz] at xz
    have hKe : min (min most ((f : Int) - (q : Int))) (max 1 z) = (K : Int) := by rw [k3]; unfold limI; rw [if_pos (by rw [HM.out]; exact hNm), hz]
    have hNm' : (N : Int) < (m : Int) := by omega
    subst hBe
    clear hcell hz k3
    go_enter Try.func10, Try.ntmps10
    go_wp2_with fail
    obtain ⟨V, hV⟩ : ∃ V, V = w.drew := ⟨_, rfl⟩
    have HBV := Lib.hid (show Below w.heap.size w V by rw [hV]; exact (Below.refl _ _).drew)
    have HBB := Lib.hid (HB.out.later HBV.out)
    have v0 := HBB.out.cell 0 rfl
    have v1 := HBB.out.cell 1 rfl
    have v2 := HBB.out.cell 2 rfl
    have v3 := HBB.out.cell 3 rfl
    have vz := below_cell HBV.out xz
    clear x0 x1 x2 x3 xf xz
    refine wp_region_held_drew (S := fun W => W.cell? ⟨g, 1, none⟩ = some (.slice (some ⟨bB, oB, none⟩) m d) ∧ W.cell? ⟨g, 3, none⟩ = some (.int .i64 (N : Nat))) (by kernel_rfl) (by rw [← hV]; exact ⟨v1, v3⟩) (fun hHeld => ?_)
    rw [← hV] at hHeld ⊢
    clear hV
    refine wpAnyH_take (i := 0) (oi := ?tko1) (v := ?tkv1) ?tkh1 (by kernel_rfl) (by kernel_rfl) (by kernel_rfl) ?tkq1 ?tky1 hHeld ?tkr1
    case tkh1 => (simp only [List.getElem?_toArray, List.getElem?_cons_zero]; rfl)
    case tkq1 => exact fun _ _ _ h => h
    case tky1 => exact Or.inl ⟨by rfl, by intro wSw hSw; (try dsimp only at hSw); go_simp; try with_reducible rfl⟩
    try simp only [Act.put, List.setIfInBounds_toArray, List.set_cons_zero, List.set_cons_succ]
    refine wpAnyH_take (i := 1) (oi := ?tko2) (v := ?tkv2) ?tkh2 (by kernel_rfl) (by kernel_rfl) (by kernel_rfl) ?tkq2 ?tky2 hHeld ?tkr2
    case tkh2 => (simp only [List.getElem?_toArray, List.getElem?_cons_succ, List.getElem?_cons_zero]; rfl)
    case tkq2 => exact fun _ _ _ h => h
    case tky2 => exact Or.inl ⟨by rfl, by intro wSw hSw; (try dsimp only at hSw); go_simp; try with_reducible rfl⟩
    try simp only [Act.put, List.setIfInBounds_toArray, List.set_cons_zero, List.set_cons_succ]
    refine wpAnyH_take (i := 2) (oi := ?tko3) (v := ?tkv3) ?tkh3 (by kernel_rfl) (by kernel_rfl) (by kernel_rfl) ?tkq3 ?tky3 hHeld ?tkr3
    case tkh3 => (simp only [List.getElem?_toArray, List.getElem?_cons_succ, List.getElem?_cons_zero]; rfl)
    case tkq3 => exact fun _ _ _ h => h
    case tky3 => exact Or.inl ⟨by rfl, by intro wSw hSw; (try dsimp only at hSw); go_simp; try with_reducible rfl⟩
    try simp only [Act.put, List.setIfInBounds_toArray, List.set_cons_zero, List.set_cons_succ]
    refine wpAnyH_take (i := 3) (oi := ?tko4) (v := ?tkv4) ?tkh4 (by kernel_rfl) (by kernel_rfl) (by kernel_rfl) ?tkq4 ?tky4 hHeld ?tkr4
    case tkh4 => (simp only [List.getElem?_toArray, List.getElem?_cons_succ, List.getElem?_cons_zero]; rfl)
    case tkq4 => exact fun _ _ _ h => h
    case tky4 => exact Or.inl ⟨by rfl, by intro wSw hSw; (try dsimp only at hSw); go_simp; try with_reducible rfl⟩
    try simp only [Act.put, List.setIfInBounds_toArray, List.set_cons_zero, List.set_cons_succ]
    refine wpAnyH_take (i := 4) (oi := ?tko5) (v := ?tkv5) ?tkh5 (by kernel_rfl) (by kernel_rfl) (by kernel_rfl) ?tkq5 ?tky5 hHeld ?tkr5
    case tkh5 => (simp only [List.getElem?_toArray, List.getElem?_cons_succ, List.getElem?_cons_zero]; rfl)
    case tkq5 => exact fun _ _ _ h => h
    case tky5 => exact Or.inl ⟨by rfl, by intro wSw hSw; (try dsimp only at hSw); go_simp; try with_reducible rfl⟩
    try simp only [Act.put, List.setIfInBounds_toArray, List.set_cons_zero, List.set_cons_succ]
    refine wpAnyH_take (i := 5) (oi := ?tko6) (v := ?tkv6) ?tkh6 (by kernel_rfl) (by kernel_rfl) (by kernel_rfl) ?tkq6 ?tky6 hHeld ?tkr6
    case tkh6 => (simp only [List.getElem?_toArray, List.getElem?_cons_succ, List.getElem?_cons_zero]; rfl)
    case tkq6 => exact fun _ _ _ h => h
    case tky6 => exact Or.inl ⟨by rfl, by intro wSw hSw; (try dsimp only at hSw); go_simp; try with_reducible rfl⟩
    try simp only [Act.put, List.setIfInBounds_toArray, List.set_cons_zero, List.set_cons_succ]
    refine wpAnyH_take (i := 6) (oi := ?tko7) (v := ?tkv7) ?tkh7 (by kernel_rfl) (by kernel_rfl) (by kernel_rfl) ?tkq7 ?tky7 hHeld ?tkr7
    case tkh7 => (simp only [List.getElem?_toArray, List.getElem?_cons_succ, List.getElem?_cons_zero]; rfl)
    case tkq7 => exact fun _ _ _ h => h
    case tky7 => exact Or.inl ⟨by rfl, by intro wSw hSw; (try dsimp only at hSw); go_simp; try with_reducible rfl⟩
    try simp only [Act.put, List.setIfInBounds_toArray, List.set_cons_zero, List.set_cons_succ]
    refine wpAnyH_take (i := 7) (oi := ?tko8) (v := ?tkv8) ?tkh8 (by kernel_rfl) (by kernel_rfl) (by kernel_rfl) ?tkq8 ?tky8 hHeld ?tkr8
    case tkh8 => (simp only [List.getElem?_toArray, List.getElem?_cons_succ, List.getElem?_cons_zero]; rfl)
    case tkq8 => exact fun _ _ _ h => h
    case tky8 => exact Or.inl ⟨by rfl, by intro wSw hSw; (try dsimp only at hSw); go_simp; try with_reducible rfl⟩
    try simp only [Act.put, List.setIfInBounds_toArray, List.set_cons_zero, List.set_cons_succ]
    refine wpAnyH_take (i := 8) (oi := ?tko9) (v := ?tkv9) ?tkh9 (by kernel_rfl) (by kernel_rfl) (by kernel_rfl) ?tkq9 ?tky9 hHeld ?tkr9
    case tkh9 => (simp only [List.getElem?_toArray, List.getElem?_cons_succ, List.getElem?_cons_zero]; rfl)
    case tkq9 => exact fun _ _ _ h => h
    case tky9 => exact Or.inl ⟨by rfl, by intro wSw hSw; (try dsimp only at hSw); go_simp; try with_reducible rfl⟩
    try simp only [Act.put, List.setIfInBounds_toArray, List.set_cons_zero, List.set_cons_succ]
    refine wpAnyH_take (i := 9) (oi := ?tko10) (v := ?tkv10) ?tkh10 (by kernel_rfl) (by kernel_rfl) (by kernel_rfl) ?tkq10 ?tky10 hHeld ?tkr10
    case tkh10 => (simp only [List.getElem?_toArray, List.getElem?_cons_succ, List.getElem?_cons_zero]; rfl)
    case tkq10 => exact fun _ _ _ h => h
    case tky10 => exact Or.inl ⟨by rfl, by intro wSw hSw; (try dsimp only at hSw); go_simp; try with_reducible rfl⟩
    try simp only [Act.put, List.setIfInBounds_toArray, List.set_cons_zero, List.set_cons_succ]
    refine wpAnyH_done (by kernel_rfl) ?_ _
    clear hHeld
    go_wp2_with fail
    obtain ⟨U, hU⟩ : ∃ U, U = V.drew := ⟨_, rfl⟩
    have HBU := Lib.hid (show Below w.heap.size w U by rw [hU]; exact HBV.out.drew)
    have HBC := Lib.hid (HB.out.later HBU.out)
    have y0 := HBC.out.cell 0 rfl
    have y1 := HBC.out.cell 1 rfl
    have y3 := HBC.out.cell 3 rfl
    have yf := HBC.out.fz 3 rfl
    have yz : U.cell? ⟨bB, oB + N, none⟩ = some (.int .i64 z) := by rw [hU]; exact vz
    clear v0 v1 v2 v3 vz
    refine wp_region_held_drew (S := fun W => W.cell? ⟨g, 1, none⟩ = some (.slice (some ⟨bB, oB, none⟩) m d) ∧ W.cell? ⟨g, 3, none⟩ = some (.int .i64 (N : Nat)) ∧ W.cell? ⟨bB, oB + N, none⟩ = some (.int .i64 z)) (by kernel_rfl) (by rw [← hU]; exact ⟨y1, y3, yz⟩) (fun hHeld => ?_)
    rw [← hU] at hHeld ⊢
    clear hU
    refine wpAnyH_take (i := 0) (oi := ?tko11) (v := ?tkv11) ?tkh11 (by kernel_rfl) (by kernel_rfl) (by kernel_rfl) ?tkq11 ?tky11 hHeld ?tkr11
    case tkh11 => (simp only [List.getElem?_toArray, List.getElem?_cons_zero]; rfl)
    case tkq11 => exact fun _ _ _ h => h
    case tky11 => exact Or.inl ⟨by rfl, by intro wSw hSw; (try dsimp only at hSw); go_simp; try with_reducible rfl⟩
    try simp only [Act.put, List.setIfInBounds_toArray, List.set_cons_zero, List.set_cons_succ]
    refine wpAnyH_take (i := 1) (oi := ?tko12) (v := ?tkv12) ?tkh12 (by kernel_rfl) (by kernel_rfl) (by kernel_rfl) ?tkq12 ?tky12 hHeld ?tkr12
    case tkh12 => (simp only [List.getElem?_toArray, List.getElem?_cons_succ, List.getElem?_cons_zero]; rfl)
    case tkq12 => exact fun _ _ _ h => h
    case tky12 => exact Or.inl ⟨by rfl, by intro wSw hSw; (try dsimp only at hSw); go_simp; try with_reducible rfl⟩
    try simp only [Act.put, List.setIfInBounds_toArray, List.set_cons_zero, List.set_cons_succ]
    refine wpAnyH_take (i := 2) (oi := ?tko13) (v := ?tkv13) ?tkh13 (by kernel_rfl) (by kernel_rfl) (by kernel_rfl) ?tkq13 ?tky13 hHeld ?tkr13
    case tkh13 => (simp only [List.getElem?_toArray, List.getElem?_cons_succ, List.getElem?_cons_zero]; rfl)
    case tkq13 => exact fun _ _ _ h => h
    case tky13 => exact Or.inl ⟨by rfl, by intro wSw hSw; (try dsimp only at hSw); go_simp; try with_reducible rfl⟩
    try simp only [Act.put, List.setIfInBounds_toArray, List.set_cons_zero, List.set_cons_succ]
    refine wpAnyH_take (i := 3) (oi := ?tko14) (v := ?tkv14) ?tkh14 (by kernel_rfl) (by kernel_rfl) (by kernel_rfl) ?tkq14 ?tky14 hHeld ?tkr14
    case tkh14 => (simp only [List.getElem?_toArray, List.getElem?_cons_succ, List.getElem?_cons_zero]; rfl)
    case tkq14 => exact fun _ _ _ h => h
    case tky14 => exact Or.inl ⟨by rfl, by intro wSw hSw; (try dsimp only at hSw); go_simp; try with_reducible rfl⟩
    try simp only [Act.put, List.setIfInBounds_toArray, List.set_cons_zero, List.set_cons_succ]
    refine wpAnyH_take (i := 4) (oi := ?tko15) (v := ?tkv15) ?tkh15 (by kernel_rfl) (by kernel_rfl) (by kernel_rfl) ?tkq15 ?tky15 hHeld ?tkr15
    case tkh15 => (simp only [List.getElem?_toArray, List.getElem?_cons_succ, List.getElem?_cons_zero]; rfl)
    case tkq15 => exact fun _ _ _ h => h
    case tky15 => exact Or.inl ⟨by rfl, by intro wSw hSw; (try dsimp only at hSw); go_simp; try with_reducible rfl⟩
    try simp only [Act.put, List.setIfInBounds_toArray, List.set_cons_zero, List.set_cons_succ]
    refine wpAnyH_take (i := 5) (oi := ?tko16) (v := ?tkv16) ?tkh16 (by kernel_rfl) (by kernel_rfl) (by kernel_rfl) ?tkq16 ?tky16 hHeld ?tkr16
    case tkh16 => (simp only [List.getElem?_toArray, List.getElem?_cons_succ, List.getElem?_cons_zero]; rfl)
    case tkq16 => exact fun _ _ _ h => h
    case tky16 => exact Or.inl ⟨by rfl, by intro wSw hSw; (try dsimp only at hSw); go_simp; try with_reducible rfl⟩
    try simp only [Act.put, List.setIfInBounds_toArray, List.set_cons_zero, List.set_cons_succ]
    refine wpAnyH_take (i := 6) (oi := ?tko17) (v := ?tkv17) ?tkh17 (by kernel_rfl) (by kernel_rfl) (by kernel_rfl) ?tkq17 ?tky17 hHeld ?tkr17
    case tkh17 => (simp only [List.getElem?_toArray, List.getElem?_cons_succ, List.getElem?_cons_zero]; rfl)
    case tkq17 => exact fun _ _ _ h => h
    case tky17 => exact Or.inl ⟨by rfl, by intro wSw hSw; (try dsimp only at hSw); go_simp; try with_reducible rfl⟩
    try simp only [Act.put, List.setIfInBounds_toArray, List.set_cons_zero, List.set_cons_succ]
    refine wpAnyH_take (i := 7) (oi := ?tko18) (v := ?tkv18) ?tkh18 (by kernel_rfl) (by kernel_rfl) (by kernel_rfl) ?tkq18 ?tky18 hHeld ?tkr18
    case tkh18 => (simp only [List.getElem?_toArray, List.getElem?_cons_succ, List.getElem?_cons_zero]; rfl)
    case tkq18 => exact fun _ _ _ h => h
    case tky18 => exact Or.inl ⟨by rfl, by intro wSw hSw; (try dsimp only at hSw); go_simp; try with_reducible rfl⟩
    try simp only [Act.put, List.setIfInBounds_toArray, List.set_cons_zero, List.set_cons_succ]
    refine wpAnyH_take (i := 8) (oi := ?tko19) (v := ?tkv19) ?tkh19 (by kernel_rfl) (by kernel_rfl) (by kernel_rfl) ?tkq19 ?tky19 hHeld ?tkr19
    case tkh19 => (simp only [List.getElem?_toArray, List.getElem?_cons_succ, List.getElem?_cons_zero]; rfl)
    case tkq19 => exact fun _ _ _ h => h
    case tky19 => exact Or.inl ⟨by rfl, by intro wSw hSw; (try dsimp only at hSw); go_simp; try with_reducible rfl⟩
    try simp only [Act.put, List.setIfInBounds_toArray, List.set_cons_zero, List.set_cons_succ]
    refine wpAnyH_take (i := 9) (oi := ?tko20) (v := ?tkv20) ?tkh20 (by kernel_rfl) (by kernel_rfl) (by kernel_rfl) ?tkq20 ?tky20 hHeld ?tkr20
    case tkh20 => (simp only [List.getElem?_toArray, List.getElem?_cons_succ, List.getElem?_cons_zero]; rfl)
    case tkq20 => exact fun _ _ _ h => h
    case tky20 => exact Or.inl ⟨by rfl, by intro wSw hSw; (try dsimp only at hSw); go_simp; try with_reducible rfl⟩
    try simp only [Act.put, List.setIfInBounds_toArray, List.set_cons_zero, List.set_cons_succ]
    refine wpAnyH_take (i := 10) (oi := ?tko21) (v := ?tkv21) ?tkh21 (by kernel_rfl) (by kernel_rfl) (by kernel_rfl) ?tkq21 ?tky21 hHeld ?tkr21
    case tkh21 => (simp only [List.getElem?_toArray, List.getElem?_cons_succ, List.getElem?_cons_zero]; rfl)
    case tkq21 => exact fun _ _ _ h => h
    case tky21 => exact Or.inl ⟨by rfl, by intro wSw hSw; (try dsimp only at hSw); go_simp; try with_reducible rfl⟩
    try simp only [Act.put, List.setIfInBounds_toArray, List.set_cons_zero, List.set_cons_succ]
    refine wpAnyH_take (i := 11) (oi := ?tko22) (v := ?tkv22) ?tkh22 (by kernel_rfl) (by kernel_rfl) (by kernel_rfl) ?tkq22 ?tky22 hHeld ?tkr22
    case tkh22 => (simp only [List.getElem?_toArray, List.getElem?_cons_succ, List.getElem?_cons_zero]; rfl)
    case tkq22 => exact fun _ _ _ h => h
    case tky22 => exact Or.inl ⟨by rfl, by intro wSw hSw; (try dsimp only at hSw); go_simp; try with_reducible rfl⟩
    try simp only [Act.put, List.setIfInBounds_toArray, List.set_cons_zero, List.set_cons_succ]
    refine wpAnyH_take (i := 12) (oi := ?tko23) (v := ?tkv23) ?tkh23 (by kernel_rfl) (by kernel_rfl) (by kernel_rfl) ?tkq23 ?tky23 hHeld ?tkr23
    case tkh23 => (simp only [List.getElem?_toArray, List.getElem?_cons_succ, List.getElem?_cons_zero]; rfl)
    case tkq23 => exact fun _ _ _ h => h
    case tky23 => exact Or.inl ⟨by rfl, by intro wSw hSw; (try dsimp only at hSw); go_simp; try with_reducible rfl⟩
    try simp only [Act.put, List.setIfInBounds_toArray, List.set_cons_zero, List.set_cons_succ]
    refine wpAnyH_take (i := 13) (oi := ?tko24) (v := ?tkv24) ?tkh24 (by kernel_rfl) (by kernel_rfl) (by kernel_rfl) ?tkq24 ?tky24 hHeld ?tkr24
    case tkh24 => (simp only [List.getElem?_toArray, List.getElem?_cons_succ, List.getElem?_cons_zero]; rfl)
    case tkq24 => exact fun _ _ _ h => h
    case tky24 => exact Or.inl ⟨by rfl, by intro wSw hSw; (try dsimp only at hSw); go_simp; try with_reducible rfl⟩
    try simp only [Act.put, List.setIfInBounds_toArray, List.set_cons_zero, List.set_cons_succ]
    refine wpAnyH_done (by kernel_rfl) ?_ _
    clear hHeld
    have HSU := Lib.hid (HS.out.below HBU.out).step
    have hzc := (HBC.out.set 3 (.int .i64 ((N : Int) + 1)) (by simp)).cell 0 rfl
    have HGR := Lib.hid (grown_trans (grown_below HBU.out (some g)) (grown_cell U ⟨g, 3, none⟩ (.int .i64 ((N : Int) + 1))))
    go_wp2
    refine bodyPost_ret (v := .tuple #[.slice A7 K (c - q), .int .i64 0]) (by simp [results, Try.results10, go_sem]) rfl ?_
    exact HEND.out _ HSU.out HGR.out
  · have hKe : min most ((f : Int) - (q : Int)) = (K : Int) := by rw [k3]; unfold limI; rw [if_neg (by rw [HM.out]; exact hNm)]
    have hNm' : ¬ (N : Int) < (m : Int) := by omega
    clear k3
    go_enter Try.func10, Try.ntmps10
    go_wp2_with fail
    obtain ⟨V, hV⟩ : ∃ V, V = w.drew := ⟨_, rfl⟩
    have HBV := Lib.hid (show Below w.heap.size w V by rw [hV]; exact (Below.refl _ _).drew)
    have HBB := Lib.hid (HB.out.later HBV.out)
    have v0 := HBB.out.cell 0 rfl
    have v1 := HBB.out.cell 1 rfl
    have v3 := HBB.out.cell 3 rfl
    have vf := HBB.out.fz 3 rfl
    clear x0 x1 x2 x3 xf
    refine wp_region_held_drew (S := fun W => W.cell? ⟨g, 1, none⟩ = some (.slice B m d) ∧ W.cell? ⟨g, 3, none⟩ = some (.int .i64 (N : Nat))) (by kernel_rfl) (by rw [← hV]; exact ⟨v1, v3⟩) (fun hHeld => ?_)
    rw [← hV] at hHeld ⊢
    clear hV
    refine wpAnyH_take (i := 0) (oi := ?tko25) (v := ?tkv25) ?tkh25 (by kernel_rfl) (by kernel_rfl) (by kernel_rfl) ?tkq25 ?tky25 hHeld ?tkr25
    case tkh25 => (simp only [List.getElem?_toArray, List.getElem?_cons_zero]; rfl)
    case tkq25 => exact fun _ _ _ h => h
    case tky25 => exact Or.inl ⟨by rfl, by intro wSw hSw; (try dsimp only at hSw); go_simp; try with_reducible rfl⟩
    try simp only [Act.put, List.setIfInBounds_toArray, List.set_cons_zero, List.set_cons_succ]
    refine wpAnyH_take (i := 1) (oi := ?tko26) (v := ?tkv26) ?tkh26 (by kernel_rfl) (by kernel_rfl) (by kernel_rfl) ?tkq26 ?tky26 hHeld ?tkr26
    case tkh26 => (simp only [List.getElem?_toArray, List.getElem?_cons_succ, List.getElem?_cons_zero]; rfl)
    case tkq26 => exact fun _ _ _ h => h
    case tky26 => exact Or.inl ⟨by rfl, by intro wSw hSw; (try dsimp only at hSw); go_simp; try with_reducible rfl⟩
    try simp only [Act.put, List.setIfInBounds_toArray, List.set_cons_zero, List.set_cons_succ]
    refine wpAnyH_take (i := 2) (oi := ?tko27) (v := ?tkv27) ?tkh27 (by kernel_rfl) (by kernel_rfl) (by kernel_rfl) ?tkq27 ?tky27 hHeld ?tkr27
    case tkh27 => (simp only [List.getElem?_toArray, List.getElem?_cons_succ, List.getElem?_cons_zero]; rfl)
    case tkq27 => exact fun _ _ _ h => h
    case tky27 => exact Or.inl ⟨by rfl, by intro wSw hSw; (try dsimp only at hSw); go_simp; try with_reducible rfl⟩
    try simp only [Act.put, List.setIfInBounds_toArray, List.set_cons_zero, List.set_cons_succ]
    refine wpAnyH_take (i := 3) (oi := ?tko28) (v := ?tkv28) ?tkh28 (by kernel_rfl) (by kernel_rfl) (by kernel_rfl) ?tkq28 ?tky28 hHeld ?tkr28
    case tkh28 => (simp only [List.getElem?_toArray, List.getElem?_cons_succ, List.getElem?_cons_zero]; rfl)
    case tkq28 => exact fun _ _ _ h => h
    case tky28 => exact Or.inl ⟨by rfl, by intro wSw hSw; (try dsimp only at hSw); go_simp; try with_reducible rfl⟩
    try simp only [Act.put, List.setIfInBounds_toArray, List.set_cons_zero, List.set_cons_succ]
    refine wpAnyH_take (i := 4) (oi := ?tko29) (v := ?tkv29) ?tkh29 (by kernel_rfl) (by kernel_rfl) (by kernel_rfl) ?tkq29 ?tky29 hHeld ?tkr29
    case tkh29 => (simp only [List.getElem?_toArray, List.getElem?_cons_succ, List.getElem?_cons_zero]; rfl)
    case tkq29 => exact fun _ _ _ h => h
    case tky29 => exact Or.inl ⟨by rfl, by intro wSw hSw; (try dsimp only at hSw); go_simp; try with_reducible rfl⟩
    try simp only [Act.put, List.setIfInBounds_toArray, List.set_cons_zero, List.set_cons_succ]
    refine wpAnyH_take (i := 5) (oi := ?tko30) (v := ?tkv30) ?tkh30 (by kernel_rfl) (by kernel_rfl) (by kernel_rfl) ?tkq30 ?tky30 hHeld ?tkr30
    case tkh30 => (simp only [List.getElem?_toArray, List.getElem?_cons_succ, List.getElem?_cons_zero]; rfl)
    case tkq30 => exact fun _ _ _ h => h
    case tky30 => exact Or.inl ⟨by rfl, by intro wSw hSw; (try dsimp only at hSw); go_simp; try with_reducible rfl⟩
    try simp only [Act.put, List.setIfInBounds_toArray, List.set_cons_zero, List.set_cons_succ]
    refine wpAnyH_take (i := 6) (oi := ?tko31) (v := ?tkv31) ?tkh31 (by kernel_rfl) (by kernel_rfl) (by kernel_rfl) ?tkq31 ?tky31 hHeld ?tkr31
    case tkh31 => (simp only [List.getElem?_toArray, List.getElem?_cons_succ, List.getElem?_cons_zero]; rfl)
    case tkq31 => exact fun _ _ _ h => h
    case tky31 => exact Or.inl ⟨by rfl, by intro wSw hSw; (try dsimp only at hSw); go_simp; try with_reducible rfl⟩
    try simp only [Act.put, List.setIfInBounds_toArray, List.set_cons_zero, List.set_cons_succ]
    refine wpAnyH_take (i := 7) (oi := ?tko32) (v := ?tkv32) ?tkh32 (by kernel_rfl) (by kernel_rfl) (by kernel_rfl) ?tkq32 ?tky32 hHeld ?tkr32
    case tkh32 => (simp only [List.getElem?_toArray, List.getElem?_cons_succ, List.getElem?_cons_zero]; rfl)
    case tkq32 => exact fun _ _ _ h => h
    case tky32 => exact Or.inl ⟨by rfl, by intro wSw hSw; (try dsimp only at hSw); go_simp; try with_reducible rfl⟩
    try simp only [Act.put, List.setIfInBounds_toArray, List.set_cons_zero, List.set_cons_succ]
    refine wpAnyH_take (i := 8) (oi := ?tko33) (v := ?tkv33) ?tkh33 (by kernel_rfl) (by kernel_rfl) (by kernel_rfl) ?tkq33 ?tky33 hHeld ?tkr33
    case tkh33 => (simp only [List.getElem?_toArray, List.getElem?_cons_succ, List.getElem?_cons_zero]; rfl)
    case tkq33 => exact fun _ _ _ h => h
    case tky33 => exact Or.inl ⟨by rfl, by intro wSw hSw; (try dsimp only at hSw); go_simp; try with_reducible rfl⟩
    try simp only [Act.put, List.setIfInBounds_toArray, List.set_cons_zero, List.set_cons_succ]
    refine wpAnyH_take (i := 9) (oi := ?tko34) (v := ?tkv34) ?tkh34 (by kernel_rfl) (by kernel_rfl) (by kernel_rfl) ?tkq34 ?tky34 hHeld ?tkr34
    case tkh34 => (simp only [List.getElem?_toArray, List.getElem?_cons_succ, List.getElem?_cons_zero]; rfl)
    case tkq34 => exact fun _ _ _ h => h
    case tky34 => exact Or.inl ⟨by rfl, by intro wSw hSw; (try dsimp only at hSw); go_simp; try with_reducible rfl⟩
    try simp only [Act.put, List.setIfInBounds_toArray, List.set_cons_zero, List.set_cons_succ]
    refine wpAnyH_done (by kernel_rfl) ?_ _
    clear hHeld
    have HSU := Lib.hid (HS.out.below HBV.out).step
    have hzc := (HBB.out.set 3 (.int .i64 ((N : Int) + 1)) (by simp)).cell 0 rfl
    have HGR := Lib.hid (grown_trans (grown_below HBV.out (some g)) (grown_cell V ⟨g, 3, none⟩ (.int .i64 ((N : Int) + 1))))
    go_wp2
    refine bodyPost_ret (v := .tuple #[.slice A7 K (c - q), .int .i64 0]) (by simp [results, Try.results10, go_sem]) rfl ?_
    exact HEND.out _ HSU.out HGR.out
end Go.Proofs.Ytidailkpkcgmjaa.Src
